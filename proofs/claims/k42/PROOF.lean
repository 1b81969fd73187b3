import PyProof.Rows.All
import Wide.All
import OpenK.AllK
import Wide.FinOn
import Lean
import PyProof.EqAt
import PyProof.EqKinds
import PyProof.TupleCall
import PyProof.NeKinds
import PyProof.StrWalks
import PyProof.ListStr
import PyProof.StrOps2
import PyProof.StrLawsIn
import KE.KDictOf
import PyProof.AttrMissHeap
import PyProof.Draws
import PyProof.EnumMake
import PyProof.Rows.EnumRows
import PyProof.LongRange
import PyProof.NoPylong
import PyProof.SeqI3
import PyProof.Rows.SeqCalls
import PySem.Challenge.RW_tilegrow_k42_ways_by_anybody
set_option Elab.async false
set_option linter.all false
set_option maxRecDepth 100000
namespace L2
open PySem PySem.Spec PyProof.Rows
abbrev Key:=Sum Int Str
def z9M:Key→Value→Bool
 | .inl k,v=>Value.isInt k v
 | .inr x,v=>Value.isStrOf x v
def keyH (w:World):Key→Int
 | .inl k=>hashInt k
 | .inr x=>hashStr w x
theorem z1M:∀ {k:Key} {v:Value},z9M k v=true→(∃ i t,k=Sum.inl i∧v=Value.int i t)∨(∃ x t,k=Sum.inr x∧v=Value.str x t)
 | .inl i,v,h=>by
  obtain ⟨t,e⟩:=Value.isInt_shape (k:=i) (v:=v) h
  exact .inl ⟨i,t,rfl,e⟩
 | .inr x,v,h=>by
  obtain ⟨t,e⟩:=Value.isStrOf_shape (x:=x) (v:=v) h
  exact .inr ⟨x,t,rfl,e⟩
theorem zaQ (i:Int) (t:Tok):z9M (.inl i) (.int i t)=true:=by simp [z9M,Value.isInt]
theorem zaP (x:Str) (t:Tok):z9M (.inr x) (.str x t)=true:=by simp [z9M,Value.isStrOf]
theorem zeI (a b:Int):decide ((Sum.inl a:Key)=Sum.inl b)=(a == b):=by
 by_cases e:a=b
 ·subst e; simp
 ·have h:¬ (Sum.inl a:Key)=Sum.inl b:=fun q=>e (Sum.inl.inj q)
  rw [decide_eq_false h]
  exact (beq_eq_false_iff_ne.mpr e).symm
theorem zeF (a b:Str):decide ((Sum.inr a:Key)=Sum.inr b)=decide (a=b):=by
 by_cases e:a=b
 ·subst e; simp
 ·have h:¬ (Sum.inr a:Key)=Sum.inr b:=fun q=>e (Sum.inr.inj q)
  rw [decide_eq_false h,decide_eq_false e]
theorem zeH (a:Int) (b:Str):decide ((Sum.inl a:Key)=Sum.inr b)=false:=decide_eq_false (fun q=>nomatch q)
theorem zeG (a:Str) (b:Int):decide ((Sum.inr a:Key)=Sum.inl b)=false:=decide_eq_false (fun q=>nomatch q)
def z2V (prog:Program) (w:World):PySem.KeyKind prog w Key where
 is:=z9M
 hash:=keyH w
 inj:=fun v a b ha hb=>by
  rcases z1M ha with ⟨i,t,rfl,rfl⟩ | ⟨x,t,rfl,rfl⟩
  ·rcases z1M hb with ⟨j,u,rfl,e⟩ | ⟨y,u,rfl,e⟩
   ·injection e with e1 _; rw [e1]
   ·exact nomatch e
  ·rcases z1M hb with ⟨j,u,rfl,e⟩ | ⟨y,u,rfl,e⟩
   ·exact nomatch e
   ·injection e with e1 _; rw [e1]
 byValue:=fun k v h=>by
  rcases z1M h with ⟨i,t,rfl,rfl⟩ | ⟨x,t,rfl,rfl⟩ <;> rfl
 pyHash:=fun hv h=>by
  rcases z1M hv with ⟨i,t,rfl,rfl⟩ | ⟨x,t,rfl,rfl⟩
  ·exact wpAny_pyHash_int h
  ·exact wpAny_pyHash_str h
 eqBool:=fun hu hv h=>by
  rcases z1M hu with ⟨i,t,rfl,rfl⟩ | ⟨x,t,rfl,rfl⟩
  ·rcases z1M hv with ⟨j,u,rfl,rfl⟩ | ⟨y,u,rfl,rfl⟩
   ·rw [zeI] at h; exact wpAny_eqBool_int h
   ·rw [zeH] at h; exact SeqAt.EqAt.int_str i t y u _ _ _ _ h
  ·rcases z1M hv with ⟨j,u,rfl,rfl⟩ | ⟨y,u,rfl,rfl⟩
   ·rw [zeG] at h; exact SeqAt.EqAt.str_int x t j u _ _ _ _ h
   ·rw [zeF] at h; exact wpAny_eqBool_str h
 «strs»:=fun k x t v h=>by
  rcases z1M h with ⟨i,u,rfl,e⟩ | ⟨y,u,rfl,e⟩
  ·exact nomatch e
  ·injection e with e1 _
   subst e1
   cases v <;> rfl
theorem z8O (prog:Program) (w:World) (i:Int) (t:Tok):(z2V prog w).is (.inl i) (.int i t)=true:=zaQ i t
theorem z8N (prog:Program) (w:World) (x:Str) (t:Tok):(z2V prog w).is (.inr x) (.str x t)=true:=zaP x t
open PySem PySem.Spec PyProof.Rows
inductive V where
 | non | bl (b:Bool) | int (i:Int) | str (x:Str) | byt (b:Array UInt8) | flt (b:UInt64) | ref (a:Addr) | ty (n:String)
 deriving DecidableEq
def RelV:V→Value→Prop
 | .non,u=>u=Value.none
 | .bl b,u=>u=Value.bool b
 | .int i,u=>∃ t,u=Value.int i t
 | .str x,u=>∃ t,u=Value.str x t
 | .byt b,u=>∃ t,u=Value.bytes b t
 | .flt b,u=>∃ t,u=Value.float b t
 | .ref a,u=>u=Value.ref a
 | .ty n,u=>u=Value.type n
abbrev Vals:List V→List Value→Prop:=Paired RelV
theorem Vals.length {xs:List V} {us:List Value} (r:Vals xs us):xs.length=us.length:=Paired.length r
theorem Vals.get:∀ {xs:List V} {us:List Value} {i:Nat} {x:V},Vals xs us→xs[i]? = some x→∃ u,us[i]? = some u∧RelV x u
 | _,_,_,_,.nil,e=>by simp at e
 | _,_,0,_,.cons r _,e=>by simp at e; subst e; exact ⟨_,rfl,r⟩
 | _,_,i + 1,x,.cons _ t,e=>by
  obtain ⟨u,h1,h2⟩:=Vals.get (i:=i) (x:=x) t (by simpa using e)
  exact ⟨u,by simpa using h1,h2⟩
theorem Vals.set {x:V} {u:Value} (r:RelV x u):∀ {xs:List V} {us:List Value} (i:Nat),Vals xs us→Vals (xs.set i x) (us.set i u)
 | _,_,_,.nil=>.nil
 | _,_,0,.cons _ t=>.cons r t
 | _,_,i + 1,.cons q t=>.cons q (Vals.set r i t)
theorem Vals.append:∀ {xs ys:List V} {us ws:List Value},Vals xs us→Vals ys ws→Vals (xs ++ ys) (us ++ ws)
 | _,_,_,_,.nil,s=>s
 | _,_,_,_,.cons r t,s=>.cons r (Vals.append t s)
theorem Vals.take:∀ {xs:List V} {us:List Value} (n:Nat),Vals xs us→Vals (xs.take n) (us.take n)
 | _,_,0,_=>.nil
 | _,_,_ + 1,.nil=>.nil
 | _,_,n + 1,.cons r t=>.cons r (Vals.take n t)
theorem Vals.drop:∀ {xs:List V} {us:List Value} (n:Nat),Vals xs us→Vals (xs.drop n) (us.drop n)
 | _,_,0,r=>r
 | _,_,_ + 1,.nil=>.nil
 | _,_,n + 1,.cons _ t=>Vals.drop n t
def RelO:Option V→Option Value→Prop
 | some v,some u=>RelV v u
 | none,none=>True
 | _,_=>False
def KV {κ:Type}:List (κ×V)→List (κ×Value)→Prop:=Paired fun (p:κ×V) (q:κ×Value)=>p.1=q.1∧RelV p.2 q.2
def kV:Key→V
 | .inl i=>.int i
 | .inr x=>.str x
inductive HO where
  /-- a list -/
 | lst (xs:List V)
  /-- a tuple (never changes) -/
 | tup (xs:List V)
  /-- a dict whose keys are ints and z29; one whose keys are tuples of ints and z29 (the empty one is both) -/
 | dK (kvs:List (Key×V)) | dT (kvs:List (List Key×V))
  /-- a set of ints: its members, its size -/
 | set (S:Int→Bool) (n:Nat)
  /-- an instance of the class at C, its dict at dx, its attributes -/
 | ins (C dx:Addr) (fs:List (Str×V))
  /-- the dict of the instance at x -/
 | own (x:Addr)
  /-- the dict of an exception -/
 | xd (fs:List (Str×V))
  /-- a bound method, f of x -/
 | met (f x:Addr)
  /-- a range object lo, lo + 1, .. below hi -/
 | rng (lo hi:Int)
  /-- a thing that is known to the object (the script; a dict while a loop walks it): read, never written while it is so -/
 | frz (o:Obj) (u:HO)
  /-- a code object's table -/
 | tbl (ps:Array Value)
  /-- any other thing, by what is true of its one object (a def of one's own: SetO a S n := HO.ext fun h => ..) -/
 | ext (φ:Heap→Prop)
abbrev Hp:=Addr→Option HO
def upd (H:Hp) (a:Addr) (o:HO):Hp:=fun b=>if b=a then some o else H b
theorem z1m {H:Hp} {a:Addr} {o:HO}:upd H a o a=some o:=by unfold upd; rw [if_pos rfl]
theorem z0K {H:Hp} {a b:Addr} {o:HO} (h:b≠a):upd H a o b=H b:=by unfold upd; rw [if_neg h]
theorem zcq {H:Hp} {a:Addr} {o u:HO}:upd (upd H a o) a u=upd H a u:=by
 funext b; unfold upd; split <;> rfl
theorem z14 {H:Hp} {a b:Addr} {o:HO} (h:H a=some o) (h':H b=none):a≠b:=by
 intro e; subst e; rw [h] at h'; cases h'
def IsTupN (h:Heap) (a:Addr) (its:Array Value):Prop:=∃ n,h.get? a=some { cls:=.type "tuple",dict:=none,data:=.seq its n,slots:=#[] }
theorem IsTupN.tup {h:Heap} {a:Addr} {its:Array Value} (x:IsTupN h a its):IsTup h a its:=let ⟨n,e⟩:=x; ⟨_,e,rfl,n,rfl⟩
theorem IsTupN.new (h:Heap) (its:Array Value):IsTupN (h.push { cls:=.type "tuple",data:=.seq its }) h.objs.size its:=⟨_,Heap.get?_push_size _ rfl⟩
theorem IsTupN.lt {h:Heap} {a:Addr} {its:Array Value} (x:IsTupN h a its):a < h.objs.size:=let ⟨_,e⟩:=x; Heap.lt_size e
section
variable (P:Program) (w:World)
def ObjOk (H:Hp) (h:Heap) (a:Addr):HO→Prop
 | .lst xs=>xs.length≤sizeLine∧∃ (its:List Value) (n:Nat),Vals xs its∧h.get? a=some { cls:=.type "list",data:=.seq its.toArray n }
 | .tup xs=>xs.length≤sizeLine∧∃ its:List Value,Vals xs its∧IsTupN h a its.toArray
 | .dK kvs=>kvs.length≤sizeLine∧(a == sysModules)=false∧∃ vs,KV kvs vs∧h.DictOf (z2V P w) a vs
 | .dT kvs=>kvs.length≤sizeLine∧(a == sysModules)=false∧∃ xs:List (List Key×Addr×Value),
   Paired (fun (p:List Key×V) (q:List Key×Addr×Value)=>p.1=q.1∧H q.2.1=some (.tup (p.1.map kV))∧RelV p.2 q.2.2) kvs xs ∧
   ∃ o es ep,h.get? a=some o∧o.ExactDict∧o.data = .dict es ep∧es.toList=xs.map (entryOfKey (tupleKind (z2V P w)))∧(xs.map (·.1)).Nodup
 | .set S n=>h.SetOf (intKind P w) a S n
 | .ins C dx fs=>H dx=some (.own a)∧fs.length≤1000∧dx≠a∧h.get? a=some (PySem.W.instObj C dx) ∧
   ∃ mA,h.Ns1 dx mA∧(∀ f,RelO (fs.lookup f) (mA f))∧PySem.Within mA (fs.map (·.1))
 | .own _=>∃ o,h.get? a=some o
 | .xd fs=>∃ mA,h.Ns1 a mA∧∀ f,RelO (fs.lookup f) (mA f)
 | .rng lo hi=>∃ t u v,h.get? a=some { cls:=.type "range",data:=.fields #[.int lo t,.int hi u,.int 1 v] }
 | .frz o u=>h.get? a=some o∧ObjOk H h a u
 | .tbl ps=>h.get? a=some { cls:=.none,data:=.fields ps }
 | .met f x=>h.get? a=some (PySem.W.methodObj (.ref f) (.ref x))
 | .ext φ=>φ h∧(∃ o,h.get? a=some o)∧∀ h1 h2:Heap,φ h1→(∀ o,h1.get? a=some o→h2.get? a=some o)→φ h2
def HOk (H:Hp) (h:Heap):Prop:=∀ a o,H a=some o→ObjOk P w H h a o
end
section
variable {P:Program} {w:World} {H H':Hp} {h h':Heap} {a:Addr} {o:HO}
theorem ObjOk.lt (x:ObjOk P w H h a o):a < h.objs.size:=by
 cases o with
 | lst xs=>obtain ⟨_,_,_,_,e⟩:=x; exact Heap.lt_size e
 | tup xs=>obtain ⟨_,_,_,p⟩:=x; exact p.lt
 | dK kvs=>obtain ⟨_,_,_,_,o,_,_,e,_⟩:=x; exact Heap.lt_size e
 | dT kvs=>obtain ⟨_,_,_,_,o,_,_,e,_⟩:=x; exact Heap.lt_size e
 | set S n=>obtain ⟨o,_,_,_,e,_⟩:=x; exact Heap.lt_size e
 | ins C dx fs=>obtain ⟨_,_,_,e,_⟩:=x; exact Heap.lt_size e
 | own y=>obtain ⟨_,e⟩:=x; exact Heap.lt_size e
 | xd fs=>obtain ⟨_,⟨_,_,_,e,_⟩,_⟩:=x; exact Heap.lt_size e
 | rng lo hi=>obtain ⟨_,_,_,e⟩:=x; exact Heap.lt_size e
 | frz ob u=>obtain ⟨e,_⟩:=x; exact Heap.lt_size e
 | tbl ps=>exact Heap.lt_size (show h.get? a=some _ from x)
 | met f y=>exact Heap.lt_size (show h.get? a=some _ from x)
 | ext φ=>obtain ⟨_,⟨_,e⟩,_⟩:=x; exact Heap.lt_size e
theorem Paired.mapP {α β:Type} {F G:α→β→Prop}:∀ {l₁:List α} {l₂:List β},Paired F l₁ l₂→(∀ a b,F a b→G a b)→Paired G l₁ l₂
 | _,_,.nil,_=>.nil
 | _,_,.cons r t,f=>.cons (f _ _ r) (Paired.mapP t f)
theorem ObjOk.stay (x:ObjOk P w H h a o) (k:∀ b u,(b=a∨H b=some (.own a))→h.get? b=some u→h'.get? b=some u)
  (ho:∀ b,H b=some (.own a)→H' b=some (.own a)) (ht:∀ b xs,H b=some (.tup xs)→H' b=some (.tup xs)):ObjOk P w H' h' a o:=by
 induction o with
 | lst xs=>obtain ⟨z,its,n,r,e⟩:=x; exact ⟨z,its,n,r,k _ _ (.inl rfl) e⟩
 | tup xs=>obtain ⟨z,its,r,n,e⟩:=x; exact ⟨z,its,r,n,k _ _ (.inl rfl) e⟩
 | dK kvs=>obtain ⟨z,y,vs,r,ob,es,ep,e,c⟩:=x; exact ⟨z,y,vs,r,ob,es,ep,k _ _ (.inl rfl) e,c⟩
 | dT kvs =>
  obtain ⟨z,y,xs,r,ob,es,ep,e,c⟩:=x
  exact ⟨z,y,xs,Paired.mapP r fun p q z=>⟨z.1,ht _ _ z.2.1,z.2.2⟩,ob,es,ep,k _ _ (.inl rfl) e,c⟩
 | set S n=>obtain ⟨ob,es,ep,t,e,c⟩:=x; exact ⟨ob,es,ep,t,k _ _ (.inl rfl) e,c⟩
 | ins C dx fs =>
  obtain ⟨d,z,ne,e,mA,⟨od,es,ep,e2,c⟩,r⟩:=x
  exact ⟨ho _ d,z,ne,k _ _ (.inl rfl) e,mA,⟨od,es,ep,k _ _ (.inr d) e2,c⟩,r⟩
 | own y=>obtain ⟨ob,e⟩:=x; exact ⟨ob,k _ _ (.inl rfl) e⟩
 | xd fs=>obtain ⟨mA,⟨od,es,ep,e,c⟩,r⟩:=x; exact ⟨mA,⟨od,es,ep,k _ _ (.inl rfl) e,c⟩,r⟩
 | rng lo hi=>obtain ⟨t,u,v,e⟩:=x; exact ⟨t,u,v,k _ _ (.inl rfl) e⟩
 | frz ob u ih=>obtain ⟨e,q⟩:=x; exact ⟨k _ _ (.inl rfl) e,ih q⟩
 | tbl ps =>
  have e:h.get? a=some { cls:=.none,data:=.fields ps }:=x
  show h'.get? a=some { cls:=.none,data:=.fields ps }
  exact k a _ (.inl rfl) e
 | met f y =>
  have e:h.get? a=some (PySem.W.methodObj (.ref f) (.ref y)):=x
  show h'.get? a=some (PySem.W.methodObj (.ref f) (.ref y))
  exact k a _ (.inl rfl) e
 | ext φ=>obtain ⟨p,⟨o,e⟩,st⟩:=x; exact ⟨st _ _ p fun o q=>k _ _ (.inl rfl) q,⟨o,k _ _ (.inl rfl) e⟩,st⟩
theorem HOk.lt (x:HOk P w H h) (e:H a=some o):a < h.objs.size:=(x a o e).lt
theorem HOk.fresh (x:HOk P w H h) (e:h.objs.size≤a):H a=none:=by
 cases q:H a with
 | none=>rfl
 | some u=>exact absurd (Nat.lt_of_lt_of_le (x.lt q) e) (Nat.lt_irrefl _)
theorem HOk.kept (x:HOk P w H h) (k:∀ b u,h.get? b=some u→h'.get? b=some u):HOk P w H h':=fun a o e =>
 (x a o e).stay (fun b u _ q=>k b u q) (fun _ q=>q) fun _ _ q=>q
theorem HOk.laid (x:HOk P w H h) (k:∀ b u,h.get? b=some u→h'.get? b=some u) (hp:h.objs.size≤a) (new:ObjOk P w (upd H a o) h' a o):HOk P w (upd H a o) h':=fun b u e=>by
 have hn:=x.fresh hp
 by_cases hb:b=a
 ·subst hb; rw [z1m] at e; cases e; exact new
 ·rw [z0K hb] at e
  exact (x b u e).stay (fun c v _ q=>k c v q) (fun c q=>by rw [z0K (z14 q hn)]; exact q) fun c xs q=>by rw [z0K (z14 q hn)]; exact q
end
def Rd (H:Hp) (a:Addr) (u:HO):Prop:=H a=some u∨∃ o,H a=some (.frz o u)
theorem Rd.of {H:Hp} {a:Addr} {u:HO} (h:H a=some u):Rd H a u:=.inl h
theorem Rd.ok {P:Program} {w:World} {H:Hp} {h:Heap} {a:Addr} {u:HO} (r:Rd H a u) (x:HOk P w H h):ObjOk P w H h a u:=by
 rcases r with r | ⟨o,r⟩
 ·exact x a u r
 ·obtain ⟨_,q⟩:=x a _ r
  exact q
def Mut:Option HO→Prop
 | some (.lst _)=>True
 | some (.dK _)=>True
 | some (.dT _)=>True
 | some (.set _ _)=>True
 | some (.ins _ _ _)=>True
 | some (.ext _)=>True
 | _=>False
section
variable {P:Program} {w:World} {H:Hp} {h h':Heap} {x e:Addr} {o':HO}
theorem HOk.write (ok:HOk P w H h) (mu:Mut (H x)) (he:e=x∨H e=some (.own x)) (k:∀ b u,b≠e→h.get? b=some u→h'.get? b=some u) (heo:∃ u,h'.get? e=some u)
  (new:ObjOk P w (upd H x o') h' x o'):HOk P w (upd H x o') h':=fun b u q=>by
 have nown:∀ c y,H c=some (.own y)→c≠x:=fun c y r z=>by subst z; rw [r] at mu; exact mu
 have ntup:∀ c xs,H c=some (.tup xs)→c≠x:=fun c xs r z=>by subst z; rw [r] at mu; exact mu
 by_cases hb:b=x
 ·subst hb; rw [z1m] at q; cases q; exact new
 ·rw [z0K hb] at q
  by_cases hbe:b=e
  ·have q':H b=some (.own x):=by
    rcases he with z | z
    ·exact absurd (hbe.trans z) hb
    ·rw [hbe]; exact z
   rw [q] at q'; cases q'
   obtain ⟨v,hv⟩:=heo
   exact ⟨v,by rw [hbe]; exact hv⟩
  ·refine (ok b u q).stay (fun c v hc r=>k c v ?_ r) (fun c r=>by rw [z0K (nown c b r)]; exact r) fun c xs r=>by rw [z0K (ntup c xs r)]; exact r
   rcases hc with rfl | hc
   ·exact hbe
   ·rintro rfl
    rcases he with z | z
    ·exact nown c b hc z
    ·rw [hc] at z; cases z; exact hb rfl
end
structure Un (fs ex:List Addr) (H H':Hp) (h h':Heap):Prop where
 keep:∀ b o,h.get? b=some o→H b=none→b ∉ fs→b ∉ ex→h'.get? b=some o
 slot:∀ b o,h.get? b=some o→H b=none→b ∈ fs→b ∉ ex→∃ sl,h'.get? b=some { o with slots:=sl }
 free:∀ b o,h.get? b=some o→H b=none→b ∉ ex→H' b=none
 there:∀ b o,h.get? b=some o→b ∉ ex→∃ o',h'.get? b=some o'
 tups:∀ b xs,H b=some (.tup xs)→H' b=some (.tup xs)
 frzs:∀ b o u,H b=some (.frz o u)→H' b=some (.frz o u)
 tbls:∀ b ps,H b=some (.tbl ps)→∃ more,H' b=some (.tbl (ps ++ more))
section
variable {fs fs' ex ex':List Addr} {H H1 H2:Hp} {h h1 h2 h':Heap} {a x e:Addr} {o:HO}
theorem Un.any (u:Un fs ex H H1 h h1) {b:Addr} {ob:Obj} (q:h.get? b=some ob) (n:H b=none) (hx:b ∉ ex):∃ sl,h1.get? b=some { ob with slots:=sl }:=by
 by_cases hb:b ∈ fs
 ·exact u.slot b ob q n hb hx
 ·exact ⟨ob.slots,u.keep b ob q n hb hx⟩
theorem Un.trans (a:Un fs ex H H1 h h1) (b:Un fs ex H1 H2 h1 h2):Un fs ex H H2 h h2 where
 keep:=fun c ob q n hc hx=>b.keep c ob (a.keep c ob q n hc hx) (a.free c ob q n hx) hc hx
 slot:=fun c ob q n hc hx=>by
  obtain ⟨sl,e1⟩:=a.slot c ob q n hc hx
  obtain ⟨sl',e2⟩:=b.slot c _ e1 (a.free c ob q n hx) hc hx
  exact ⟨sl',e2⟩
 free:=fun c ob q n hx=>by
  obtain ⟨o',e1⟩:=a.there c ob q hx
  exact b.free c o' e1 (a.free c ob q n hx) hx
 there:=fun c ob q hx=>by
  obtain ⟨o',e1⟩:=a.there c ob q hx
  exact b.there c o' e1 hx
 tups:=fun c xs q=>b.tups c xs (a.tups c xs q)
 frzs:=fun c ob xs q=>b.frzs c ob xs (a.frzs c ob xs q)
 tbls:=fun c ps q=>by
  obtain ⟨m1,e1⟩:=a.tbls c ps q
  obtain ⟨m2,e2⟩:=b.tbls c _ e1
  exact ⟨m1 ++ m2,by rw [e2,Array.append_assoc]⟩
theorem Un.kept (k:∀ b u,h.get? b=some u→h'.get? b=some u):Un fs ex H H h h' :=
 ⟨fun b ob q _ _ _=>k b ob q,fun b ob q _ _ _=>⟨ob.slots,k b ob q⟩,fun _ _ _ n _=>n,fun b ob q _=>⟨ob,k b ob q⟩,fun _ _ q=>q,fun _ _ _ q=>q,fun _ ps q=>⟨#[],by rw [q]; simp⟩⟩
theorem Un.refl:Un fs ex H H h h:=Un.kept fun _ _ q=>q
theorem Un.laid (k:∀ b u,h.get? b=some u→h'.get? b=some u) (hp:h.objs.size≤a) (hn:H a=none):Un fs ex H (upd H a o) h h' where
 keep:=fun b u q _ _ _=>k b u q
 slot:=fun b u q _ _ _=>⟨u.slots,k b u q⟩
 free:=fun b u q n _=>by rw [z0K (Nat.ne_of_lt (Nat.lt_of_lt_of_le (Heap.lt_size q) hp))]; exact n
 there:=fun b u q _=>⟨u,k b u q⟩
 tups:=fun b xs q=>by rw [z0K (z14 q hn)]; exact q
 frzs:=fun b u xs q=>by rw [z0K (z14 q hn)]; exact q
 tbls:=fun b ps q=>⟨#[],by rw [z0K (z14 q hn),q]; simp⟩
theorem Un.write (mu:Mut (H x)) (he:e=x∨H e=some (.own x)) (k:∀ b u,b≠e→h.get? b=some u→h'.get? b=some u) (heo:∃ u,h'.get? e=some u):Un fs ex H (upd H x o) h h':=by
 have hx:∀ b,H b=none→b≠x:=fun b n z=>by subst z; rw [n] at mu; exact mu
 have hb:∀ b,H b=none→b≠e:=fun b n z=>by
  subst z
  rcases he with r | r
  ·exact hx b n r
  ·rw [n] at r; cases r
 have hm:∀ b u,H b=some u→¬ Mut (some u)→b≠x:=fun b u q nm z=>by subst z; rw [q] at mu; exact nm mu
 refine ⟨fun b u q n _ _=>k b u (hb b n) q,fun b u q n _ _=>⟨u.slots,k b u (hb b n) q⟩,fun b u q n _=>by rw [z0K (hx b n)]; exact n,fun b u q _=>?_,
  fun b xs q=>by rw [z0K (hm b _ q fun z=>z)]; exact q,fun b u xs q=>by rw [z0K (hm b _ q fun z=>z)]; exact q,fun b ps q=>⟨#[],by rw [z0K (hm b _ q fun z=>z),q]; simp⟩⟩
 by_cases hbe:b=e
 ·subst hbe; exact heo
 ·exact ⟨u,k b u hbe q⟩
theorem Un.mono (u:Un fs ex H H1 h h1) (hs:∀ b ∈ fs,b ∈ fs') (hx:∀ b ∈ ex,b ∈ ex'):Un fs' ex' H H1 h h1 :=
 ⟨fun b ob q n hb he=>u.keep b ob q n (fun z=>hb (hs b z)) fun z=>he (hx b z),fun _ _ q n _ he=>u.any q n fun z=>he (hx _ z),fun b ob q n he=>u.free b ob q n fun z=>he (hx b z),fun b ob q he=>u.there b ob q fun z=>he (hx b z),u.tups,u.frzs,u.tbls⟩
end
def trk (h:Heap) (H:Hp):List Addr:=(List.range h.objs.size).filter fun a=>(H a).isSome
def hidT (h:Heap) (H:Hp):Heap:=PySem.W.hideAll h (trk h H)
theorem zaX (h:Heap) (H:Hp):(hidT h H).objs.size=h.objs.size:=PySem.W.hideAll_size _ _
theorem zbO {h:Heap} {H:Hp} {b:Addr} {o:Obj} (e:h.get? b=some o) (n:H b=none):(hidT h H).get? b=some o :=
 PySem.W.hideAll_get _ e fun hm=>by
  have q:(H b).isSome=true:=(List.mem_filter.mp hm).2
  rw [n] at q; simp at q
theorem zd8 {h:Heap} {H:Hp} {b:Addr} {o:Obj} (e:(hidT h H).get? b=some o):h.get? b=some o∧H b=none:=by
 have e':h.get? b=some o:=PySem.W.of_hideAll (trk h H) e
 refine ⟨e',?_⟩
 cases q:H b with
 | none=>rfl
 | some x =>
  have hm:b ∈ trk h H:=List.mem_filter.mpr ⟨List.mem_range.mpr (Heap.lt_size e'),by simp [q]⟩
  have z:(hidT h H).get? b=none:=PySem.W.hideAll_none (trk h H) hm
  rw [z] at e; cases e
def zdx (g h:Heap) (L:Addr):List (Addr×Obj):=(List.range h.objs.size).filterMap fun a=>if a=L∨(g.get? a).isSome=true then none else (h.get? a).map fun o=>(a,o)
def rest (g h:Heap) (L d:Addr):List (Addr×Obj):=(zdx g h L).filter fun p=>decide (p.1≠d)
open PySem PySem.Spec PyProof.Rows
structure Mod (K:PySem.W.Frag) (mg:Str→Option Value) (base:Heap):Prop where
 kin:K.In base
 glob:base.Ns mainGlobals mg
 blt:∃ mb,base.Ns builtinsNs mb∧∀ x:Str,x≠"__name__"→mb x=bootBuiltins x
 nolimit:base.NoLimit
structure Cx where
 prog:Program
 w:World
 K:PySem.W.Frag
 mg:Str→Option Value
 base:Heap
 A:Around
 N:List Str
 s₀:Shared
 H₀:Hp
 env:Env
 outer:List Env
 stack:List Env
 ex:List Addr
 fn:Str→Bool
 calm:Bool
 pn:List (Addr×Obj)
 xe:Value→Shared→Prop
def frs (l:List Env):List Addr:=l.filterMap (·.frame)
abbrev Cx.fs (X:Cx):List Addr:=frs X.outer
def Vis (sc:Scope) (x:Str):Prop:=sc.names.lookup x=some .local∨sc.names.lookup x=some .cell∨sc.names.lookup x=some .free
def Loc (sc:Scope) (x:Str):Prop:=sc.names.lookup x=some .local∨sc.names.lookup x=some .cell
def Look (env:Env) (h:Heap) (m:Str→Option Value) (x:Str) (u:Value):Prop :=
 (env.kindOf x=some .local∧m x=some u)∨((env.kindOf x=some .cell∨env.kindOf x=some .free)∧∃ c,env.cells.lookup x=some c∧h.IsCell c (some u))
structure Cx.Ok (X:Cx):Prop where
 mod:Mod X.K X.mg X.base
 kind:X.env.scope.kind = .function
 glob:X.env.globals=mainGlobals
 blt:X.env.builtins=builtinsNs
 above:X.s₀.heap.objs.size≤X.env.locals
 inj:∀ x y c,X.env.cells.lookup x=some c→X.env.cells.lookup y=some c→x=y
 has:∀ x,(X.env.kindOf x=some .cell∨X.env.kindOf x=some .free)→∃ c,X.env.cells.lookup x=some c
 cab:∀ x c,X.fn x=true→X.env.cells.lookup x=some c→X.s₀.heap.objs.size≤c
 hd:X.calm=true→X.A.handled=none
 frames:X.A.frames=some X.stack
 stk:X.stack=X.outer∨(X.stack=X.env :: X.outer∧X.env.frame=some X.env.locals)
 exf:∀ b ∈ X.ex,b≠X.env.locals∧∀ x c,X.env.cells.lookup x=some c→c≠b
 bs:∀ b o,X.base.get? b=some o→X.s₀.heap.get? b=some o∧X.H₀ b=none
 bsz:X.base.objs.size≤X.s₀.heap.objs.size
 noex:∀ b o,X.base.get? b=some o→b ∉ X.ex
 exfs:∀ b ∈ X.ex,b ∉ X.fs
 funs:X.s₀.heap.FunFrames X.base X.outer
 frf:∀ b ∈ X.fs,X.H₀ b=none
structure Inv (X:Cx) (pins:List (Addr×Obj)) (σ:List (Option V)) (H:Hp) (s:Shared):Prop where
 ok:X.Ok
 os:s.os=X.s₀.os
 bare:AllBare s.gens
 base:Un X.fs X.ex X.H₀ H X.s₀.heap s.heap
 loc:∃ m,s.heap.Ns X.env.locals m∧∀ (i:Nat) (x:Str) (v:V),X.N[i]? = some x→σ[i]? = some (some v)→Vis X.env.scope x→∃ u,RelV v u∧Look X.env s.heap m x u
 cell:∀ x c,X.env.cells.lookup x=some c→∃ v,s.heap.IsCell c v
 free:H X.env.locals=none
 freeC:∀ x c,X.env.cells.lookup x=some c→H c=none
 pin:∀ p ∈ X.pn ++ pins,s.heap.get? p.1=some p.2∧H p.1=none∧p.1≠X.env.locals∧p.1 ∉ X.fs∧∀ v,p.2.data≠.cell v
 hok:HOk X.prog X.w H s.heap
 len:σ.length=X.N.length
section
variable {X:Cx} {pins:List (Addr×Obj)} {σ:List (Option V)} {H H':Hp} {s:Shared} {h':Heap}
theorem Cx.Ok.nofr (ok:X.Ok) {b:Addr} {o:Obj} (e:X.base.get? b=some o):b ∉ X.fs:=fun hb=>by
 have:=(ok.funs.mem hb).1
 rw [e] at this; cases this
theorem Inv.bs (I:Inv X pins σ H s):∀ b o,X.base.get? b=some o→s.heap.get? b=some o∧H b=none:=fun b o e =>
 ⟨I.base.keep b o (I.ok.bs b o e).1 (I.ok.bs b o e).2 (I.ok.nofr e) (I.ok.noex b o e),I.base.free b o (I.ok.bs b o e).1 (I.ok.bs b o e).2 (I.ok.noex b o e)⟩
theorem Inv.bk (I:Inv X pins σ H s):∀ b o,X.base.get? b=some o→s.heap.get? b=some o:=fun b o e=>(I.bs b o e).1
theorem Inv.mod (I:Inv X pins σ H s):Mod X.K X.mg X.base:=I.ok.mod
theorem Inv.kIn (I:Inv X pins σ H s):X.K.In s.heap:=I.ok.mod.kin.keeps I.bk
theorem Inv.nolimit (I:Inv X pins σ H s):s.heap.NoLimit:=I.ok.mod.nolimit.keeps I.bk
theorem Inv.fr (I:Inv X pins σ H s):∃ m,Fr X.base X.env.locals s.heap m :=
 let ⟨m,hn,_⟩:=I.loc
 ⟨m,hn,I.bk,Nat.le_trans I.ok.bsz I.ok.above⟩
theorem Inv.lt (I:Inv X pins σ H s):X.env.locals < s.heap.objs.size:=let ⟨_,hn,_⟩:=I.loc; hn.lt
theorem Inv.sz (I:Inv X pins σ H s):X.s₀.heap.objs.size≤s.heap.objs.size:=Nat.le_trans I.ok.above (Nat.le_of_lt I.lt)
theorem Inv.nofs (I:Inv X pins σ H s) {a:Addr} (h:s.heap.objs.size≤a):a ∉ X.fs:=fun hb=>by
 obtain ⟨_,o,ho,_⟩:=I.ok.funs.mem hb
 exact absurd (Nat.lt_of_lt_of_le (Heap.lt_size ho) (Nat.le_trans I.sz h)) (Nat.lt_irrefl _)
theorem Inv.cne (I:Inv X pins σ H s):∀ x c,X.env.cells.lookup x=some c→c≠X.env.locals:=fun x c e z=>by
 obtain ⟨v,o,ho,hd⟩:=I.cell x c e
 obtain ⟨m,⟨o',es,ep,ho',hd',_⟩,_⟩:=I.loc
 rw [z,ho'] at ho; cases ho; rw [hd'] at hd; cases hd
theorem Inv.funs (I:Inv X pins σ H s):s.heap.FunFrames X.base X.outer:=by
 have all:∀ (l:List Env),(∀ b ∈ frs l,b ∈ X.fs)→X.s₀.heap.FunFrames X.base l→s.heap.FunFrames X.base l:=by
  intro l
  induction l with
  | nil=>intro _ _; trivial
  | cons env r ih =>
   intro hs hl
   obtain ⟨hk,⟨L,o,hf,hn,ho,hd⟩,hr⟩:=hl
   have hL:L ∈ X.fs:=hs L (by unfold frs; rw [List.filterMap_cons,hf]; exact List.mem_cons_self)
   obtain ⟨sl,e⟩:=I.base.slot L o ho (I.ok.frf L hL) hL fun z=>I.ok.exfs L z hL
   exact ⟨hk,⟨L,_,hf,hn,e,hd⟩,ih (fun b hb=>hs b (by unfold frs; rw [List.filterMap_cons,hf]; exact List.mem_cons_of_mem _ hb)) hr⟩
 exact all X.outer (fun _ hb=>hb) I.ok.funs
theorem Inv.stack (I:Inv X pins σ H s):s.heap.FunFrames X.base X.stack:=by
 rcases I.ok.stk with e | ⟨e,hf⟩
 ·rw [e]; exact I.funs
 ·rw [e]
  obtain ⟨m,hn,_⟩:=I.loc
  refine .cons (by rw [I.ok.kind]; decide) hf hn ?_ I.funs
  exact Heap.get?_none_of_le (Nat.le_trans I.ok.bsz I.ok.above)
theorem Inv.stkSub (I:Inv X pins σ H s):∀ b ∈ frs X.stack,b ∈ X.env.locals :: X.fs:=fun b hb=>by
 rcases I.ok.stk with e | ⟨e,hf⟩
 ·rw [e] at hb; exact List.mem_cons_of_mem _ hb
 ·rw [e] at hb
  unfold frs at hb
  rw [List.filterMap_cons,hf] at hb
  exact hb
theorem Inv.stkFree (I:Inv X pins σ H s):∀ b ∈ frs X.stack,H b=none:=fun b hb=>by
 rcases List.mem_cons.mp (I.stkSub b hb) with e | hb
 ·rw [e]; exact I.free
 ·obtain ⟨_,o,ho,_⟩:=I.ok.funs.mem hb
  exact I.base.free b o ho (I.ok.frf b hb) fun z=>I.ok.exfs b z hb
theorem Inv.step {g':Array GenState} {t':Nat} {d':Drawn} {ch:List Addr} (I:Inv X pins σ H s)
  (hch:∀ b ∈ ch,(b ∈ X.ex∨X.s₀.heap.objs.size≤b)∧b≠X.env.locals∧(∀ x c,X.env.cells.lookup x=some c→c≠b)∧∀ p ∈ X.pn ++ pins,p.1≠b)
  (keep:∀ b o,b≠X.env.locals→b ∉ X.fs→b ∉ ch→s.heap.get? b=some o→H b=none→h'.get? b=some o)
  (slot:∀ b o,b≠X.env.locals→b ∈ X.fs→b ∉ ch→s.heap.get? b=some o→H b=none→∃ sl,h'.get? b=some { o with slots:=sl }) (free:∀ b o,b ∉ ch→s.heap.get? b=some o→H b=none→H' b=none)
  (there:∀ b o,b ∉ ch→s.heap.get? b=some o→∃ o',h'.get? b=some o')
  (tups:∀ b xs,H b=some (.tup xs)→H' b=some (.tup xs)) (frzs:∀ b o u,H b=some (.frz o u)→H' b=some (.frz o u)) (tbls:∀ b ps,H b=some (.tbl ps)→∃ more,H' b=some (.tbl (ps ++ more)))
  (ns:∀ m,s.heap.Ns X.env.locals m→h'.Ns X.env.locals m) (hok:HOk X.prog X.w H' h') (hg:AllBare g') :
  Inv X pins σ H' { s with heap:=h',gens:=g',drawn:=d',toks:=t' }:=by
 have neL:∀ b o,X.s₀.heap.get? b=some o→b≠X.env.locals:=fun b o e=>Nat.ne_of_lt (Nat.lt_of_lt_of_le (Heap.lt_size e) I.ok.above)
 have neC:∀ b o,X.s₀.heap.get? b=some o→b ∉ X.ex→b ∉ ch:=fun b o e hx hb=>by
  rcases (hch b hb).1 with z | z
  ·exact hx z
  ·exact absurd (Nat.lt_of_lt_of_le (Heap.lt_size e) z) (Nat.lt_irrefl _)
 have cellK:∀ x c,X.env.cells.lookup x=some c→∀ v,s.heap.IsCell c v→h'.IsCell c v:=fun x c e v ⟨o,ho,hd⟩=>by
  have nch:c ∉ ch:=fun z=>(hch c z).2.2.1 x c e rfl
  by_cases hc:c ∈ X.fs
  ·obtain ⟨sl,q⟩:=slot c o (I.cne x c e) hc nch ho (I.freeC x c e)
   exact ⟨_,q,hd⟩
  ·exact ⟨o,keep c o (I.cne x c e) hc nch ho (I.freeC x c e),hd⟩
 refine ⟨I.ok,I.os,hg,⟨fun b o e n hb hx=>?_,fun b o e n hb hx=>?_,fun b o e n hx=>?_,fun b o e hx=>?_,fun b xs e=>tups b xs (I.base.tups b xs e),fun b o xs e=>frzs b o xs (I.base.frzs b o xs e),fun b ps e=>?_⟩,?_,fun x c e=>?_,?_,fun x c e=>?_,fun p hp=>?_,hok,I.len⟩
 ·exact keep b o (neL b o e) hb (neC b o e hx) (I.base.keep b o e n hb hx) (I.base.free b o e n hx)
 ·obtain ⟨sl,e1⟩:=I.base.slot b o e n hb hx
  obtain ⟨sl',e2⟩:=slot b _ (neL b o e) hb (neC b o e hx) e1 (I.base.free b o e n hx)
  exact ⟨sl',e2⟩
 ·obtain ⟨o',e1⟩:=I.base.there b o e hx
  exact free b o' (neC b o e hx) e1 (I.base.free b o e n hx)
 ·obtain ⟨o',e1⟩:=I.base.there b o e hx
  exact there b o' (neC b o e hx) e1
 ·obtain ⟨m1,e1⟩:=I.base.tbls b ps e
  obtain ⟨m2,e2⟩:=tbls b _ e1
  exact ⟨m1 ++ m2,by rw [e2,Array.append_assoc]⟩
 ·obtain ⟨m,hn,hl⟩:=I.loc
  refine ⟨m,ns m hn,fun i x v e1 e2 e3=>?_⟩
  obtain ⟨u,r,l⟩:=hl i x v e1 e2 e3
  refine ⟨u,r,?_⟩
  rcases l with l | ⟨k,c,e,z⟩
  ·exact .inl l
  ·exact .inr ⟨k,c,e,cellK x c e _ z⟩
 ·obtain ⟨v,z⟩:=I.cell x c e
  exact ⟨v,cellK x c e v z⟩
 ·obtain ⟨m,⟨o,_,_,ho,_⟩,_⟩:=I.loc
  exact free _ o (fun z=>(hch _ z).2.1 rfl) ho I.free
 ·obtain ⟨v,o,ho,hd⟩:=I.cell x c e
  exact free c o (fun z=>(hch c z).2.2.1 x c e rfl) ho (I.freeC x c e)
 ·obtain ⟨e,n,ne,nf,d⟩:=I.pin p hp
  have nch:p.1 ∉ ch:=fun z=>(hch p.1 z).2.2.2 p hp rfl
  exact ⟨keep p.1 p.2 ne nf nch e n,free p.1 p.2 nch e n,ne,nf,d⟩
theorem Inv.un {t':Nat} (I:Inv X pins σ H s) (u:Un X.fs [] H H' s.heap h') (hok:HOk X.prog X.w H' h'):Inv X pins σ H' { s with heap:=h',toks:=t' }:=by
 obtain ⟨m,⟨o,es,ep,ho,r⟩,_⟩:=id I.loc
 obtain ⟨sl,hL⟩:=u.any ho I.free (by simp)
 exact I.step (g':=s.gens) (d':=s.drawn) (ch:=[]) (fun _ z=>nomatch z) (fun b o _ hb _ e n=>u.keep b o e n hb (by simp)) (fun b o _ hb _ e n=>u.slot b o e n hb (by simp)) (fun b o _ e n=>u.free b o e n (by simp)) (fun b o _ e=>u.there b o e (by simp)) u.tups u.frzs u.tbls (fun m' hm=>by
  obtain ⟨o',es',ep',ho',r'⟩:=hm
  rw [ho] at ho'; cases ho'
  exact ⟨_,es',ep',hL,r'⟩) hok I.bare
theorem Inv.call {g':Array GenState} {t':Nat} {d':Drawn} {ch:List Addr} (I:Inv X pins σ H s) (u:Un (frs X.stack) ch H H' s.heap h') (hok:HOk X.prog X.w H' h') (hg:AllBare g')
  (hch:∀ b ∈ ch,(b ∈ X.ex∨X.s₀.heap.objs.size≤b)∧b≠X.env.locals∧(∀ x c,X.env.cells.lookup x=some c→c≠b)∧∀ p ∈ X.pn ++ pins,p.1≠b) :
  Inv X pins σ H' { s with heap:=h',gens:=g',drawn:=d',toks:=t' }:=by
 obtain ⟨m,⟨o,es,ep,ho,r⟩,_⟩:=id I.loc
 obtain ⟨sl,hL⟩:=u.any ho I.free fun z=>(hch _ z).2.1 rfl
 exact I.step (ch:=ch) hch (fun b o hL hb hc e n=>u.keep b o e n (fun z=>(List.mem_cons.mp (I.stkSub b z)).elim hL hb) hc) (fun b o _ _ hc e n=>u.any e n hc) (fun b o hc e n=>u.free b o e n hc) (fun b o hc e=>u.there b o e hc) u.tups u.frzs u.tbls (fun m' hm=>by
  obtain ⟨o',es',ep',ho',r'⟩:=hm
  rw [ho] at ho'; cases ho'
  exact ⟨_,es',ep',hL,r'⟩) hok hg
theorem Inv.turned {t':Nat} {it:Addr} (I:Inv X pins σ H s) (k:∀ b o,b≠it→s.heap.get? b=some o→h'.get? b=some o) (hn:H it=none) (hL:it≠X.env.locals)
  (h1:it ∈ X.ex∨X.s₀.heap.objs.size≤it) (h2:∀ x c,X.env.cells.lookup x=some c→c≠it) (h3:∀ p ∈ X.pn ++ pins,p.1≠it):Inv X pins σ H { s with heap:=h',toks:=t' }:=by
 have nit:∀ b u,H b=some u→b≠it:=fun b u e z=>by rw [z,hn] at e; cases e
 refine I.step (g':=s.gens) (d':=s.drawn) (ch:=[it]) (fun b hb=>?_) (fun b o _ _ hc e _=>k b o (fun z=>hc (by simp [z])) e) (fun b o _ _ hc e _=>⟨o.slots,k b o (fun z=>hc (by simp [z])) e⟩) (fun _ _ _ _ n=>n)
  (fun b o hc e=>⟨o,k b o (fun z=>hc (by simp [z])) e⟩) (fun _ _ e=>e) (fun _ _ _ e=>e) (fun b ps e=>⟨#[],by rw [e]; simp⟩) (fun m hm=>?_) (fun b u e=>?_) I.bare
 ·have e:b=it:=by simpa using hb
  subst e
  exact ⟨h1,hL,h2,h3⟩
 ·obtain ⟨o,es,ep,ho,r⟩:=hm
  exact ⟨o,es,ep,k _ o (Ne.symm hL) ho,r⟩
 ·refine (I.hok b u e).stay (fun c v hc q=>k c v ?_ q) (fun _ q=>q) fun _ _ q=>q
  rcases hc with z | z
  ·rw [z]; exact nit b u e
  ·exact nit c _ z
theorem Inv.tok (I:Inv X pins σ H s) (t:Nat):Inv X pins σ H { s with toks:=t }:=I.un (h':=s.heap) (t':=t) Un.refl I.hok
theorem Inv.kept {t':Nat} (I:Inv X pins σ H s) (k:∀ b u,s.heap.get? b=some u→h'.get? b=some u):Inv X pins σ H { s with heap:=h',toks:=t' }:=I.un (Un.kept k) (I.hok.kept k)
theorem Inv.laid {a:Addr} {o:HO} {t':Nat} (I:Inv X pins σ H s) (k:∀ b u,s.heap.get? b=some u→h'.get? b=some u) (hp:s.heap.objs.size≤a) (new:ObjOk X.prog X.w (upd H a o) h' a o) :
  Inv X pins σ (upd H a o) { s with heap:=h',toks:=t' }:=I.un (Un.laid k hp (I.hok.fresh hp)) (I.hok.laid k hp new)
theorem Inv.write {x e:Addr} {o:HO} {t':Nat} (I:Inv X pins σ H s) (mu:Mut (H x)) (he:e=x∨H e=some (.own x)) (k:∀ b u,b≠e→s.heap.get? b=some u→h'.get? b=some u) (heo:∃ u,h'.get? e=some u)
  (new:ObjOk X.prog X.w (upd H x o) h' x o):Inv X pins σ (upd H x o) { s with heap:=h',toks:=t' }:=I.un (Un.write mu he k heo) (I.hok.write mu he k heo new)
theorem Inv.weak {σ':List (Option V)} (I:Inv X pins σ H s) (hl:σ'.length=σ.length) (w:∀ (i:Nat) v,σ'[i]? = some (some v)→σ[i]? = some (some v)):Inv X pins σ' H s :=
 ⟨I.ok,I.os,I.bare,I.base,let ⟨m,hn,hl'⟩:=I.loc; ⟨m,hn,fun i x v e1 e2 e3=>hl' i x v e1 (w i v e2) e3⟩,I.cell,I.free,I.freeC,I.pin,I.hok,hl.trans I.len⟩
theorem Inv.pins_of {pins':List (Addr×Obj)} (I:Inv X pins σ H s) (h:∀ p ∈ pins',s.heap.get? p.1=some p.2∧H p.1=none∧p.1≠X.env.locals∧p.1 ∉ X.fs∧∀ v,p.2.data≠.cell v):Inv X pins' σ H s :=
 ⟨I.ok,I.os,I.bare,I.base,I.loc,I.cell,I.free,I.freeC,fun p hp=>(List.mem_append.mp hp).elim (fun z=>I.pin p (List.mem_append_left _ z)) (h p),I.hok,I.len⟩
theorem z9c {N:List Str} (hN:N.Nodup) {i j:Nat} {x:Str} (a:N[i]? = some x) (b:N[j]? = some x):i=j:=by
 obtain ⟨h1,e1⟩:=List.getElem?_eq_some_iff.mp a
 obtain ⟨h2,e2⟩:=List.getElem?_eq_some_iff.mp b
 exact (List.getElem_inj hN).mp (e1.trans e2.symm)
theorem z7H {M:Model} {A:Around} {E:Value→Shared→Prop} {i:Nat} {x:Str} {v:V} {u:Value} {Q:Unit→Shared→Prop} (I:Inv X pins σ H s) (hN:X.N.Nodup) (hi:X.N[i]? = some x) (hx:Loc X.env.scope x) (r:RelV v u)
  (h:∀ s',Inv X pins (σ.set i (some v)) H s'→(∃ a,Heap.SameBut a s.heap s'.heap∧(a=X.env.locals∨X.env.cells.lookup x=some a))→Q () s') (hf:X.fn x=true∨X.env.scope.names.lookup x=some .local:=by first | exact .inl rfl | exact .inr rfl | assumption):wpAny M A (storeName X.env x u) Q E s:=by
 obtain ⟨m,hn,hl⟩:=id I.loc
 have hcls:(X.env.scope.kind == .class || (X.env.scope.kind == .module && X.env.locals != X.env.globals))=false:=by rw [I.ok.kind]; rfl
 have hiσ:i < σ.length:=by rw [I.len]; exact (List.getElem?_eq_some_iff.mp hi).1
 have cne:=I.cne
 have tracked:∀ {a:Addr} {h':Heap},(∃ o,s.heap.get? a=some o∧H a=none)→Heap.SameBut a s.heap h'→HOk X.prog X.w H h':=fun {a h'} ha hs b ob e=>by
  obtain ⟨_,_,hfree⟩:=ha
  refine (I.hok b ob e).stay (fun c w' hc q=>(hs.2 c ?_).trans q) (fun _ q=>q) fun _ _ q=>q
  rintro rfl
  rcases hc with rfl | hc
  ·rw [hfree] at e; cases e
  ·rw [hfree] at hc; cases hc
 rcases hx with hk | hk
 ·refine wpAny_storeName_local hk hn (fun h' hn' hs=>?_) hcls
  obtain ⟨oL,_,_,hoL,_⟩:=id hn
  refine h _ ⟨I.ok,I.os,I.bare,⟨fun b o e n hb hx=>?_,fun b o e n hb hx=>?_,I.base.free,fun b o e hx=>?_,I.base.tups,I.base.frzs,I.base.tbls⟩,⟨_,hn',fun j y v' e1 e2 e3=>?_⟩,fun y c e=>?_,I.free,I.freeC,fun p hp=>?_,tracked ⟨oL,hoL,I.free⟩ hs,by simpa using I.len⟩ ⟨_,hs,.inl rfl⟩
  ·exact (hs.2 b (Nat.ne_of_lt (Nat.lt_of_lt_of_le (Heap.lt_size e) I.ok.above))).trans (I.base.keep b o e n hb hx)
  ·obtain ⟨sl,e1⟩:=I.base.slot b o e n hb hx
   exact ⟨sl,(hs.2 b (Nat.ne_of_lt (Nat.lt_of_lt_of_le (Heap.lt_size e) I.ok.above))).trans e1⟩
  ·obtain ⟨o',e1⟩:=I.base.there b o e hx
   exact ⟨o',(hs.2 b (Nat.ne_of_lt (Nat.lt_of_lt_of_le (Heap.lt_size e) I.ok.above))).trans e1⟩
  ·by_cases hj:j=i
   ·subst hj
    rw [hi] at e1; cases e1
    rw [List.getElem?_set_self hiσ] at e2
    cases e2
    exact ⟨u,r,.inl ⟨hk,by simp⟩⟩
   ·rw [List.getElem?_set_ne (Ne.symm hj)] at e2
    obtain ⟨u',r',q⟩:=hl j y v' e1 e2 e3
    refine ⟨u',r',?_⟩
    rcases q with ⟨k,e⟩ | ⟨k,c,e,z⟩
    ·refine .inl ⟨k,?_⟩
     have:y≠x:=fun e=>hj (z9c hN e1 (e ▸ hi))
     simp [this,e]
    ·exact .inr ⟨k,c,e,z.sameBut hs (cne y c e)⟩
  ·obtain ⟨w',z⟩:=I.cell y c e
   exact ⟨w',z.sameBut hs (cne y c e)⟩
  ·obtain ⟨e,n,ne,nf,d⟩:=I.pin p hp
   exact ⟨(hs.2 p.1 ne).trans e,n,ne,nf,d⟩
 ·have hfn:X.fn x=true:=by
   rcases hf with z | z
   ·exact z
   ·rw [z] at hk; cases hk
  obtain ⟨c,hc⟩:=I.ok.has x (.inl hk)
  obtain ⟨w',z⟩:=I.cell x c hc
  refine wpAny_storeName_cell I.ok.kind hk hc z (fun h' hc' hs=>?_)
  obtain ⟨oc,hoc,hocd⟩:=id z
  refine h { s with heap:=h' } ⟨I.ok,I.os,I.bare,⟨fun b o e n hb hx=>?_,fun b o e n hb hx=>?_,I.base.free,fun b o e hx=>?_,I.base.tups,I.base.frzs,I.base.tbls⟩,⟨m,hn.sameBut hs (Ne.symm (cne x c hc)),fun j y v' e1 e2 e3=>?_⟩,fun y c' e=>?_,I.free,I.freeC,fun p hp=>?_,tracked ⟨oc,hoc,I.freeC x c hc⟩ hs,by simpa using I.len⟩ ⟨c,hs,.inr hc⟩
  ·exact (hs.2 b (Nat.ne_of_lt (Nat.lt_of_lt_of_le (Heap.lt_size e) (I.ok.cab x c hfn hc)))).trans (I.base.keep b o e n hb hx)
  ·obtain ⟨sl,e1⟩:=I.base.slot b o e n hb hx
   exact ⟨sl,(hs.2 b (Nat.ne_of_lt (Nat.lt_of_lt_of_le (Heap.lt_size e) (I.ok.cab x c hfn hc)))).trans e1⟩
  ·obtain ⟨o',e1⟩:=I.base.there b o e hx
   exact ⟨o',(hs.2 b (Nat.ne_of_lt (Nat.lt_of_lt_of_le (Heap.lt_size e) (I.ok.cab x c hfn hc)))).trans e1⟩
  ·by_cases hj:j=i
   ·subst hj
    rw [hi] at e1; cases e1
    rw [List.getElem?_set_self hiσ] at e2
    cases e2
    exact ⟨u,r,.inr ⟨.inl hk,c,hc,hc'⟩⟩
   ·rw [List.getElem?_set_ne (Ne.symm hj)] at e2
    obtain ⟨u',r',q⟩:=hl j y v' e1 e2 e3
    refine ⟨u',r',?_⟩
    rcases q with q | ⟨k,c',e,z'⟩
    ·exact .inl q
    ·refine .inr ⟨k,c',e,z'.sameBut hs ?_⟩
     rintro rfl
     exact hj (z9c hN e1 (I.ok.inj _ _ _ e hc ▸ hi))
  ·by_cases hcc:c'=c
   ·subst hcc; exact ⟨_,hc'⟩
   ·obtain ⟨w2,z2⟩:=I.cell y c' e
    exact ⟨w2,z2.sameBut hs hcc⟩
  ·obtain ⟨e,n,ne,nf,d⟩:=I.pin p hp
   refine ⟨(hs.2 p.1 ?_).trans e,n,ne,nf,d⟩
   intro q
   rw [q,hoc] at e
   have q':oc=p.2:=Option.some.inj e
   exact d w' (by rw [← q']; exact hocd)
theorem z90 {M:Model} {A:Around} {E:Value→Shared→Prop} {i:Nat} {x:Str} {v:V} {u:Value} {Q:Unit→Shared→Prop} (I:Inv X pins σ H s) (hN:X.N.Nodup) (hi:X.N[i]? = some x) (hx:Loc X.env.scope x) (r:RelV v u)
  (h:∀ s',Inv X pins (σ.set i (some v)) H s'→Q () s') (hf:X.fn x=true∨X.env.scope.names.lookup x=some .local:=by first | exact .inl rfl | exact .inr rfl | assumption):wpAny M A (storeName X.env x u) Q E s :=
 z7H I hN hi hx r (fun s' I' _=>h s' I') hf
theorem Inv.call' {s':Shared} {ch:List Addr} (I:Inv X pins σ H s) (ho:s'.os=s.os) (u:Un (frs X.stack) ch H H' s.heap s'.heap) (hok:HOk X.prog X.w H' s'.heap) (hg:AllBare s'.gens)
  (hch:∀ b ∈ ch,(b ∈ X.ex∨X.s₀.heap.objs.size≤b)∧b≠X.env.locals∧(∀ x c,X.env.cells.lookup x=some c→c≠b)∧∀ p ∈ X.pn ++ pins,p.1≠b):Inv X pins σ H' s':=by
 obtain ⟨h',g',d',t',o'⟩:=s'
 have e:o'=s.os:=ho
 subst e
 exact I.call (g':=g') (t':=t') (d':=d') u hok hg hch
end
abbrev XK:=Value→Option Addr→Hp→Prop
abbrev St:=List (Option V)
abbrev VK:=V→Hp→Prop
abbrev TE:=St→Hp→VK→Prop
abbrev TT:=St→Hp→(Bool→Hp→Prop)→Prop
abbrev TA:=St→Hp→(List V→Hp→Prop)→Prop
structure Ends where
 nx:St→Hp→Prop
 rt:VK
 bk:St→Hp→Prop:=fun _ _=>False
 ct:St→Hp→Prop:=fun _ _=>False
abbrev TS:=Ends→St→Hp→Prop
def EP (X:Cx) (pins:List (Addr×Obj)) (σ:St) (Q:VK) (u:Value) (s':Shared):Prop:=∃ v H',Inv X pins σ H' s'∧RelV v u∧Q v H'
def TP (X:Cx) (pins:List (Addr×Obj)) (σ:St) (Q:Bool→Hp→Prop) (b:Bool) (s':Shared):Prop:=∃ H',Inv X pins σ H' s'∧Q b H'
def AP (X:Cx) (pins:List (Addr×Obj)) (σ:St) (Q:List V→Hp→Prop) (us:List Value) (s':Shared):Prop:=∃ vs H',Inv X pins σ H' s'∧Vals vs us∧Q vs H'
def SP (X:Cx) (pins:List (Addr×Obj)) (D:Ends) (f:Flow) (s':Shared):Prop :=
 match f with
 | .next=>∃ σ' H',Inv X pins σ' H' s'∧D.nx σ' H'
 | .brk=>∃ σ' H',Inv X pins σ' H' s'∧D.bk σ' H'
 | .cont=>∃ σ' H',Inv X pins σ' H' s'∧D.ct σ' H'
 | .ret u=>∃ v σ' H',Inv X pins σ' H' s'∧RelV v u∧D.rt v H'
def PE (X:Cx) (e:Expr) (t:TE):Prop :=
 ∀ (pins:List (Addr×Obj)) (s:Shared) (σ:St) (H:Hp) (Q:VK),Inv X pins σ H s→t σ H Q→wpAny (model X.prog X.w) X.A (eval e X.env) (EP X pins σ Q) X.xe s
def PT (X:Cx) (e:Expr) (t:TT):Prop :=
 ∀ (pins:List (Addr×Obj)) (s:Shared) (σ:St) (H:Hp) (Q:Bool→Hp→Prop),Inv X pins σ H s→t σ H Q→wpAny (model X.prog X.w) X.A (isTrue e X.env (eval e X.env)) (TP X pins σ Q) X.xe s
def PW (X:Cx) (e:Expr) (t:TT):Prop :=
 ∀ (whole:Sem Value) (pins:List (Addr×Obj)) (s:Shared) (σ:St) (H:Hp) (Q:Bool→Hp→Prop),Inv X pins σ H s→t σ H Q→wpAny (model X.prog X.w) X.A (isTrue e X.env whole) (TP X pins σ Q) X.xe s
theorem PW.pt {X:Cx} {e:Expr} {t:TT} (h:PW X e t):PT X e t:=h _
def PA (X:Cx) (es:List Expr) (t:TA):Prop :=
 ∀ (pos:Pos) (pins:List (Addr×Obj)) (s:Shared) (σ:St) (H:Hp) (Q:List V→Hp→Prop),Inv X pins σ H s→t σ H Q→wpAny (model X.prog X.w) X.A (spliced (backTo pos (starEach es X.env))) (AP X pins σ Q) X.xe s
def PS (X:Cx) (st:Stmt) (t:TS):Prop :=
 ∀ (pins:List (Addr×Obj)) (s:Shared) (σ:St) (H:Hp) (D:Ends),Inv X pins σ H s→t D σ H→wpAny (model X.prog X.w) X.A (exec st X.env) (SP X pins D) X.xe s
def PSs (X:Cx) (st:List Stmt) (t:TS):Prop :=
 ∀ (pins:List (Addr×Obj)) (s:Shared) (σ:St) (H:Hp) (D:Ends),Inv X pins σ H s→t D σ H→wpAny (model X.prog X.w) X.A (execs st X.env) (SP X pins D) X.xe s
theorem thn {α:Type} {t:Sem α} {Q Q':α→Shared→Prop} {M:Model} {A:Around} {E:Value→Shared→Prop} {s:Shared} (h:wpAny M A t Q E s) (hQ:∀ a s,Q a s→Q' a s):wpAny M A t Q' E s:=wpAny_mono h hQ fun _ _ x=>x
open PySem PySem.Spec PyProof.Rows
section
variable {X:Cx}
theorem bin {a b:Expr} {ta tb:TE} (ha:PE X a ta) (hb:PE X b tb) {pins:List (Addr×Obj)} {s:Shared} {σ:St} {H:Hp} {R:V→V→Hp→Prop} (I:Inv X pins σ H s) (h:ta σ H fun x H1=>tb σ H1 fun y H2=>R x y H2)
  {α:Type} {Q:α→Shared→Prop} {f:Value→Value→Sem α}
  (hf:∀ v u s2 x y H2,Inv X pins σ H2 s2→RelV x v→RelV y u→R x y H2→wpAny (model X.prog X.w) X.A (f v u) Q X.xe s2) :
  wpAny (model X.prog X.w) X.A (eval a X.env) (fun v s₁=>wpAny (model X.prog X.w) X.A (eval b X.env) (fun u s₂=>wpAny (model X.prog X.w) X.A (f v u) Q X.xe s₂) X.xe s₁) X.xe s:=by
 refine thn (ha pins s σ H _ I h) fun v s1 ⟨x,H1,I1,r1,q1⟩=>?_
 refine thn (hb pins s1 σ H1 _ I1 q1) fun u s2 ⟨y,H2,I2,r2,q2⟩=>?_
 exact hf v u s2 x y H2 I2 r1 r2 q2
def tVar (i:Nat):TE:=fun σ H Q=>∃ v,σ[i]? = some (some v)∧Q v H
def tC (v:V):TE:=fun _ H Q=>Q v H
theorem zef {i:Nat} {x:Str} {pos:Pos} (hN:X.N[i]? = some x) (hv:Vis X.env.scope x) (hd:(x == ("__debug__" : Str))=false:=by decide) (hcd:(x == ("__classdict__" : Str))=false:=by decide):PE X (.Name x pos) (tVar i):=by
 intro pins s σ H Q I h
 obtain ⟨v,e,h⟩:=h
 obtain ⟨m,hn,hl⟩:=I.loc
 obtain ⟨u,r,l⟩:=hl i x v hN e hv
 have fin:EP X pins σ Q u s:=⟨v,H,I,r,h⟩
 rcases l with ⟨hk,hm⟩ | ⟨hk,c,hc,hcell⟩
 ·exact wpAny_Name (wpAny_loadName_local I.ok.kind hk hn hm fin) hd
 ·rcases hk with hk | hk
  ·exact wpAny_Name (wpAny_loadName_cell I.ok.kind hk hc hcell fin) hd
  ·exact wpAny_Name (wpAny_loadName_free I.ok.kind hk hc hcell fin hcd) hd
theorem zcc {i j pos}:PE X (.Constant (.int i) j pos) (tC (.int i)):=fun _ _ _ H _ I h=>wpAny_Constant_int ⟨.int i,H,I.tok _,⟨_,rfl⟩,h⟩
theorem pe_bl {b j pos}:PE X (.Constant (.bool b) j pos) (tC (.bl b)):=fun _ _ _ H _ I h=>Constant_bool ⟨.bl b,H,I,rfl,h⟩
theorem zem {j pos}:PE X (.Constant .none j pos) (tC .non):=fun _ _ _ H _ I h=>Constant_none ⟨.non,H,I,rfl,h⟩
theorem zcb {x j pos}:PE X (.Constant (.str x) j pos) (tC (.str x)):=fun _ _ _ H _ I h=>Calls.Constant_str ⟨.str x,H,I.tok _,⟨_,rfl⟩,h⟩
def Gl (X:Cx) (x:Str):Prop:=X.env.kindOf x=some .globalImplicit
theorem zaO {E:Value→Shared→Prop} {pins:List (Addr×Obj)} {s:Shared} {σ:St} {H:Hp} {x:Str} {u:Value} {pos:Pos} {Q:Value→Shared→Prop} (I:Inv X pins σ H s) (hg:Gl X x) (hm:X.mg x=some u) (h:Q u s)
  (hd:(x == ("__debug__" : Str))=false:=by decide):wpAny (model X.prog X.w) X.A (eval (.Name x pos) X.env) Q E s :=
 Calls.Name_function_global I.ok.kind hg (Calls.loadGlobal_global (by rw [I.ok.glob]; exact I.mod.glob.keeps I.bk) hm h) hd
theorem z9d {E:Value→Shared→Prop} {pins:List (Addr×Obj)} {s:Shared} {σ:St} {H:Hp} {x:Str} {u:Value} {pos:Pos} {Q:Value→Shared→Prop} (I:Inv X pins σ H s) (hg:Gl X x) (hm:X.mg x=none) (hv:bootBuiltins x=some u) (h:Q u s)
  (hn:x≠"__name__":=by decide) (hd:(x == ("__debug__" : Str))=false:=by decide):wpAny (model X.prog X.w) X.A (eval (.Name x pos) X.env) Q E s:=by
 obtain ⟨mb,h1,h2⟩:=I.mod.blt
 exact Calls.Name_function_global I.ok.kind hg (Calls.loadGlobal_builtin (by rw [I.ok.glob]; exact I.mod.glob.keeps I.bk) hm (by rw [I.ok.blt]; exact h1.keeps I.bk) ((h2 x hn).trans hv) h) hd
theorem zd1 {x:Str} {v:V} {u:Value} {pos:Pos} (hg:Gl X x) (hm:X.mg x=some u) (r:RelV v u) (hd:(x == ("__debug__" : Str))=false:=by decide):PE X (.Name x pos) (tC v) :=
 fun _ _ _ H _ I h=>zaO I hg hm ⟨v,H,I,r,h⟩ hd
theorem zd4 {x:Str} {v:V} {u:Value} {pos:Pos} (hg:Gl X x) (hm:X.mg x=none) (hv:bootBuiltins x=some u) (r:RelV v u) (hn:x≠"__name__":=by decide) (hd:(x == ("__debug__" : Str))=false:=by decide):PE X (.Name x pos) (tC v) :=
 fun _ _ _ H _ I h=>z9d I hg hm hv ⟨v,H,I,r,h⟩ hn hd
variable {a b:Expr} {ta tb:TE} {pos:Pos}
def PC (X:Cx) (op:CmpOp) (a b:Expr) (t:TE):Prop :=
 ∀ (pins:List (Addr×Obj)) (s:Shared) (σ:St) (H:Hp) (Q:VK),Inv X pins σ H s→t σ H Q →
  wpAny (model X.prog X.w) X.A (eval a X.env) (fun v s₁=>wpAny (model X.prog X.w) X.A (eval b X.env) (fun u s₂=>wpAny (model X.prog X.w) X.A (compareOp op v u) (EP X pins σ Q) X.xe s₂) X.xe s₁) X.xe s
theorem zbK (b:Expr) {op:CmpOp} (h:op≠.In) (h2:op≠.NotIn):behindInMarks op b=false:=by
 have e1:(op == CmpOp.In)=false:=by cases op <;> first | rfl | exact absurd rfl h
 have e2:(op == CmpOp.NotIn)=false:=by cases op <;> first | rfl | exact absurd rfl h2
 cases b <;> simp [behindInMarks,e1,e2]
def tB (t:TE):TT:=fun σ H Q=>t σ H fun x H1=>∃ c,x = .bl c∧Q c H1
theorem pt_cmp {op:CmpOp} {t:TE} (h:PC X op a b t) (h1:behindInMarks op b=false:=by first | exact zbK _ (by decide) (by decide) | rfl):PT X (.Compare a [op] [b] pos) (tB t):=by
 intro pins s σ H Q I hw
 refine wpAny_isTrue_Compare1 (thn (h pins s σ H _ I hw) fun v s1 h1=>thn h1 fun u s2 h2=>thn h2 fun c s3 ⟨x,H1,I1,r1,q1⟩=>?_) h1
 obtain ⟨d,rfl,q⟩:=q1
 cases r1
 exact wpAny_truthy_bool ⟨H1,I1,q⟩
theorem ze9 {e:Expr} {t:TE} (h:PE X e t) (he:∀ whole,isTrue e X.env whole=(do let v ← whole; standAt e.pos; holding [v] (truthy v)):=by intro _; rfl):PT X e (tB t):=by
 intro pins s σ H Q I hw
 refine isTrue_plain (thn (h pins s σ H _ I hw) fun v s1 ⟨x,H1,I1,r1,q1⟩=>?_) (he _)
 obtain ⟨d,rfl,q⟩:=q1
 cases r1
 exact wpAny_truthy_bool ⟨H1,I1,q⟩
variable {tA tB':TT} {rest:List Expr}
def tAnd (t u:TT):TT:=fun σ H Q=>t σ H fun c H1=>if c=true then u σ H1 Q else Q false H1
def tOr (t u:TT):TT:=fun σ H Q=>t σ H fun c H1=>if c=true then Q true H1 else u σ H1 Q
def tNot (t:TT):TT:=fun σ H Q=>t σ H fun c H1=>Q (!c) H1
theorem zcU (ha:PT X a tA):PW X (.BoolOp .And [a] pos) tA:=by
 intro wh pins s σ H Q I h
 refine isTrue_and (thn (ha pins s σ H Q I h) fun c s1 e=>?_)
 cases c with
 | true=>exact isTrue_and_nil e
 | false=>exact e
theorem ze7 (ha:PT X a tA):PW X (.BoolOp .Or [a] pos) tA:=by
 intro wh pins s σ H Q I h
 refine isTrue_or (thn (ha pins s σ H Q I h) fun c s1 e=>?_)
 cases c with
 | false=>exact isTrue_or_nil e
 | true=>exact e
theorem ze8 (ha:PT X a tA) (hb:PW X (.BoolOp .And (b :: rest) pos) tB'):PW X (.BoolOp .And (a :: b :: rest) pos) (tAnd tA tB'):=by
 intro wh pins s σ H Q I h
 refine isTrue_and (thn (ha pins s σ H _ I h) fun c s1 ⟨H1,I1,q1⟩=>?_)
 cases c with
 | true=>exact hb wh pins s1 σ H1 Q I1 q1
 | false=>exact ⟨H1,I1,q1⟩
theorem pw_or (ha:PT X a tA) (hb:PW X (.BoolOp .Or (b :: rest) pos) tB'):PW X (.BoolOp .Or (a :: b :: rest) pos) (tOr tA tB'):=by
 intro wh pins s σ H Q I h
 refine isTrue_or (thn (ha pins s σ H _ I h) fun c s1 ⟨H1,I1,q1⟩=>?_)
 cases c with
 | true=>exact ⟨H1,I1,q1⟩
 | false=>exact hb wh pins s1 σ H1 Q I1 q1
theorem zea (ha:PT X a tA):PT X (.UnaryOp .Not a pos) (tNot tA):=by
 intro pins s σ H Q I h
 exact isTrue_not (ha pins s σ H (fun c H1=>Q (!c) H1) I h)
def tAndV (ta tb:TE):TE:=fun σ H Q=>ta σ H fun x H1=>∃ c,x = .bl c∧if c=true then tb σ H1 Q else Q (.bl false) H1
def tNotV (ta:TE):TE:=fun σ H Q=>ta σ H fun x H1=>∃ c,x = .bl c∧Q (.bl (!c)) H1
theorem zek {op} {t:TE} (h:PE X a t):PE X (.BoolOp op [a] pos) t:=fun pins s σ H Q I hw=>BoolOp_one (h pins s σ H Q I hw)
theorem zeq (ha:PE X a ta) (hb:PE X (.BoolOp .And (b :: rest) pos) tb):PE X (.BoolOp .And (a :: b :: rest) pos) (tAndV ta tb):=by
 intro pins s σ H Q I h
 refine BoolOp_and (thn (ha pins s σ H _ I h) fun v s1 ⟨x,H1,I1,r1,q1⟩=>?_)
 obtain ⟨c,rfl,q1⟩:=q1
 cases r1
 refine wpAny_truthy_bool ?_
 cases c with
 | true=>exact hb pins s1 σ H1 Q I1 q1
 | false=>exact ⟨.bl false,H1,I1,rfl,q1⟩
theorem zel (ha:PE X a ta):PE X (.UnaryOp .Not a pos) (tNotV ta):=by
 intro pins s σ H Q I h
 refine UnaryOp_ (thn (ha pins s σ H _ I h) fun v s1 ⟨x,H1,I1,r1,q1⟩=>?_)
 obtain ⟨c,rfl,q1⟩:=q1
 cases r1
 exact not_of (wpAny_truthy_bool ⟨.bl (!c),H1,I1,rfl,q1⟩)
end
open PySem PySem.Spec PyProof.Rows
def SqL (K:PySem.W.Frag) (H:Hp) (a:Addr) (xs:List V):Prop :=
 Rd H a (.lst xs) ∨
  ∃ (o:Obj) (its:Array Value) (n:Nat),K.lookup a=some o∧o.cls = .type "list"∧o.dict=none∧o.data = .seq its n∧its.size≤sizeLine∧Vals xs its.toList
def SqT (K:PySem.W.Frag) (H:Hp) (a:Addr) (xs:List V):Prop :=
 Rd H a (.tup xs) ∨
  ∃ (o:Obj) (its:Array Value) (n:Nat),K.lookup a=some o∧o.cls = .type "tuple"∧o.data = .seq its n∧its.size≤sizeLine∧Vals xs its.toList
def absV:Value→Option V
 | .none=>some .non
 | .bool b=>some (.bl b)
 | .int i _=>some (.int i)
 | .str x _=>some (.str x)
 | .bytes b _=>some (.byt b)
 | .float b _=>some (.flt b)
 | .ref a=>some (.ref a)
 | .type n=>some (.ty n)
 | _=>none
theorem RelV.abs {x:V} {u:Value} (r:RelV x u):absV u=some x:=by
 cases x with
 | non=>cases r; rfl
 | bl _=>cases r; rfl
 | int _=>obtain ⟨t,rfl⟩:=r; rfl
 | str _=>obtain ⟨t,rfl⟩:=r; rfl
 | byt _=>obtain ⟨t,rfl⟩:=r; rfl
 | flt _=>obtain ⟨t,rfl⟩:=r; rfl
 | ref _=>cases r; rfl
 | ty _=>cases r; rfl
theorem RelV.inj {x y:V} {u:Value} (r:RelV x u) (q:RelV y u):x=y:=Option.some.inj (r.abs.symm.trans q.abs)
theorem Vals.inj:∀ {xs ys:List V} {us:List Value},Vals xs us→Vals ys us→xs=ys
 | _,_,_,.nil,.nil=>rfl
 | _,_,_,.cons r t,.cons r' t'=>by rw [r.inj r',Vals.inj t t']
section
variable {X:Cx} {pins:List (Addr×Obj)} {σ:St} {H:Hp} {s:Shared} {a:Addr} {xs ys:List V}
theorem SqL.of {K:PySem.W.Frag} (h:H a=some (.lst xs)):SqL K H a xs:=.inl (.inl h)
theorem SqT.of {K:PySem.W.Frag} (h:H a=some (.tup xs)):SqT K H a xs:=.inl (.inl h)
theorem Inv.list (I:Inv X pins σ H s) (h:SqL X.K H a xs):∃ its:List Value,Vals xs its∧PlainL s.heap a its.toArray∧xs.length≤sizeLine:=by
 rcases h with h | ⟨o,its,n,hk,hc,hd,hs,hz,r⟩
 ·obtain ⟨z,its,n,r,e⟩:=h.ok I.hok
  exact ⟨its,r,⟨_,n,e,rfl,rfl,rfl⟩,z⟩
 ·refine ⟨its.toList,r,⟨o,n,I.kIn a o hk,hc,hd,by simpa using hs⟩,?_⟩
  have e:=r.length
  simp only [Array.length_toList] at e
  omega
theorem Inv.tuple (I:Inv X pins σ H s) (h:SqT X.K H a xs):∃ its:List Value,Vals xs its∧IsTup s.heap a its.toArray∧xs.length≤sizeLine:=by
 rcases h with h | ⟨o,its,n,hk,hc,hs,hz,r⟩
 ·obtain ⟨z,its,r,p⟩:=h.ok I.hok
  exact ⟨its,r,p.tup,z⟩
 ·refine ⟨its.toList,r,⟨o,I.kIn a o hk,hc,n,by simpa using hs⟩,?_⟩
  have e:=r.length
  simp only [Array.length_toList] at e
  omega
theorem Inv.list_inj (I:Inv X pins σ H s) (h:SqL X.K H a xs) (h':SqL X.K H a ys):xs=ys:=by
 obtain ⟨its,r,⟨o,n,e,_,_,d⟩,_⟩:=I.list h
 obtain ⟨its',r',⟨o',n',e',_,_,d'⟩,_⟩:=I.list h'
 rw [e] at e'; cases e'
 rw [d] at d'
 injection d' with d1 _
 have:its=its':=by simpa using congrArg Array.toList d1
 subst this
 exact r.inj r'
theorem Inv.tuple_inj (I:Inv X pins σ H s) (h:SqT X.K H a xs) (h':SqT X.K H a ys):xs=ys:=by
 obtain ⟨its,r,⟨o,e,_,n,d⟩,_⟩:=I.tuple h
 obtain ⟨its',r',⟨o',e',_,n',d'⟩,_⟩:=I.tuple h'
 rw [e] at e'; cases e'
 rw [d] at d'
 injection d' with d1 _
 have:its=its':=by simpa using congrArg Array.toList d1
 subst this
 exact r.inj r'
end
abbrev Cx.wish (X:Cx) (E:Value→Shared→Prop):Cx:={ X with xe:=E }
abbrev Cx.nox (X:Cx):Cx:=X.wish fun _ _=>False
theorem Cx.Ok.wish {X:Cx} (ok:X.Ok) (E:Value→Shared→Prop):(X.wish E).Ok :=
 ⟨ok.mod,ok.kind,ok.glob,ok.blt,ok.above,ok.inj,ok.has,ok.cab,ok.hd,ok.frames,ok.stk,ok.exf,ok.bs,ok.bsz,ok.noex,ok.exfs,ok.funs,ok.frf⟩
theorem Cx.Ok.unwish {X:Cx} {E:Value→Shared→Prop} (ok:(X.wish E).Ok):X.Ok :=
 ⟨ok.mod,ok.kind,ok.glob,ok.blt,ok.above,ok.inj,ok.has,ok.cab,ok.hd,ok.frames,ok.stk,ok.exf,ok.bs,ok.bsz,ok.noex,ok.exfs,ok.funs,ok.frf⟩
section
variable {X:Cx} {pins:List (Addr×Obj)} {σ:St} {H:Hp} {s:Shared} {E:Value→Shared→Prop}
theorem Inv.wish (I:Inv X pins σ H s) (E:Value→Shared→Prop):Inv (X.wish E) pins σ H s:=⟨I.ok.wish E,I.os,I.bare,I.base,I.loc,I.cell,I.free,I.freeC,I.pin,I.hok,I.len⟩
theorem Inv.unwish (I:Inv (X.wish E) pins σ H s):Inv X pins σ H s:=⟨I.ok.unwish,I.os,I.bare,I.base,I.loc,I.cell,I.free,I.freeC,I.pin,I.hok,I.len⟩
theorem SP.unwish {D:Ends} {f:Flow} {s':Shared} (h:SP (X.wish E) pins D f s'):SP X pins D f s':=by
 cases f with
 | next=>obtain ⟨σ',H',I,q⟩:=h; exact ⟨σ',H',I.unwish,q⟩
 | brk=>obtain ⟨σ',H',I,q⟩:=h; exact ⟨σ',H',I.unwish,q⟩
 | cont=>obtain ⟨σ',H',I,q⟩:=h; exact ⟨σ',H',I.unwish,q⟩
 | ret u=>obtain ⟨v,σ',H',I,r,q⟩:=h; exact ⟨v,σ',H',I.unwish,r,q⟩
theorem PE.nox {e:Expr} {t:TE} (h:PE X.nox e t):PE X e t:=fun pins s σ H Q I hw =>
 wpAny_mono (h pins s σ H Q (I.wish _) hw) (fun _ _ ⟨v,H',I',r,q⟩=>⟨v,H',I'.unwish,r,q⟩) fun _ _ z=>False.elim z
theorem PT.nox {e:Expr} {t:TT} (h:PT X.nox e t):PT X e t:=fun pins s σ H Q I hw =>
 wpAny_mono (h pins s σ H Q (I.wish _) hw) (fun _ _ ⟨H',I',q⟩=>⟨H',I'.unwish,q⟩) fun _ _ z=>False.elim z
theorem PSs.nox {st:List Stmt} {t:TS} (h:PSs X.nox st t):PSs X st t:=fun pins s σ H D I hw =>
 wpAny_mono (h pins s σ H D (I.wish _) hw) (fun _ _ q=>q.unwish) fun _ _ z=>False.elim z
end
section
variable {X:Cx} {st:Stmt} {rest:List Stmt} {t u:TS} {e:Expr} {te:TE} {pos:Pos}
def tNext:TS:=fun D σ H=>D.nx σ H
def tSeq (t u:TS):TS:=fun D σ H=>t { D with nx:=u D } σ H
theorem zcX:PSs X [] tNext:=fun _ _ σ H _ I h=>wpAny_execs_nil ⟨σ,H,I,h⟩
theorem zbB (h1:PS X st t) (h2:PSs X rest u):PSs X (st :: rest) (tSeq t u):=by
 intro pins s σ H D I h
 refine wpAny_execs_cons (thn (h1 pins s σ H { D with nx:=u D } I h) fun f s1 q=>?_)
 cases f with
 | next =>
  obtain ⟨σ',H',I',q⟩:=q
  exact h2 pins s1 σ' H' D I' q
 | ret v=>exact q
 | brk=>exact q
 | cont=>exact q
theorem zcW (h1:PS X st t):PSs X [st] t:=by
 intro pins s σ H D I h
 refine wpAny_execs_cons (thn (h1 pins s σ H D I h) fun f s1 q=>?_)
 cases f with
 | next=>exact wpAny_execs_nil q
 | ret v=>exact q
 | brk=>exact q
 | cont=>exact q
theorem Inv.quiet {pins:List (Addr×Obj)} {σ:St} {H:Hp} {s:Shared} (I:Inv X pins σ H s):interactive X.env=false:=by simp [interactive,I.ok.kind]
def zcv (te:TE):TS:=fun D σ H=>te σ H fun _ H1=>D.nx σ H1
theorem zas (he:PE X e te) (hs:swapsWith e none pos.line X.env=pure false:=by rfl):PS X (.Expr e pos) (zcv te):=by
 intro pins s σ H D I h
 exact wpAny_Expr_any (thn (he pins s σ H _ I h) fun v s1 ⟨x,H1,I1,r1,q1⟩=>⟨σ,H1,I1,q1⟩) I.quiet hs
def tRet (te:TE):TS:=fun D σ H=>te σ H D.rt
theorem zec (he:PE X e te):PS X (.Return (some e) pos) (tRet te):=by
 intro pins s σ H D I h
 exact wpAny_Return_some (thn (he pins s σ H _ I h) fun v s1 ⟨x,H1,I1,r1,q1⟩=>⟨x,σ,H1,I1,r1,q1⟩)
def tIfS (c:TT) (t u:TS):TS:=fun D σ H=>c σ H fun b H1=>if b=true then t D σ H1 else u D σ H1
theorem ps_if {c:Expr} {a b:List Stmt} {tc:TT} (hc:PT X c tc) (ha:PSs X a t) (hb:PSs X b u):PS X (.If c a b pos) (tIfS tc t u):=by
 intro pins s σ H D I h
 refine wpAny_If (thn (hc pins s σ H _ I h) fun d s1 ⟨H1,I1,q1⟩=>?_)
 cases d with
 | true=>exact ha pins s1 σ H1 D I1 q1
 | false=>exact hb pins s1 σ H1 D I1 q1
def zdE:TS:=fun _ _ _=>False
theorem zbC:PS X st zdE:=fun _ _ _ _ _ _ h=>h.elim
end
abbrev TG:=V→St→Hp→(St→Hp→Prop)→Prop
abbrev TGs:=List V→St→Hp→(St→Hp→Prop)→Prop
def PG (X:Cx) (target:Expr) (t:TG):Prop :=
 ∀ (pins:List (Addr×Obj)) (s:Shared) (σ:St) (H:Hp) (v:V) (u:Value) (Q:St→Hp→Prop),Inv X pins σ H s→RelV v u→t v σ H Q →
  wpAny (model X.prog X.w) X.A (assign target X.env u) (fun _ s'=>∃ σ' H',Inv X pins σ' H' s'∧Q σ' H') X.xe s
def PGs (X:Cx) (ts:List Expr) (t:TGs):Prop :=
 ∀ (pins:List (Addr×Obj)) (s:Shared) (σ:St) (H:Hp) (vs:List V) (us:List Value) (Q:St→Hp→Prop),Inv X pins σ H s→Vals vs us→t vs σ H Q →
  wpAny (model X.prog X.w) X.A (assignInOrder ((assignEach ts X.env).map (·.2)) us) (fun _ s'=>∃ σ' H',Inv X pins σ' H' s'∧Q σ' H') X.xe s
abbrev TSet:=V→V→V→Hp→(Hp→Prop)→Prop
def PSet (X:Cx) (t:TSet):Prop :=
 ∀ (pins:List (Addr×Obj)) (s:Shared) (σ:St) (H:Hp) (o i v:V) (ov iv u:Value) (Q:Hp→Prop),Inv X pins σ H s→RelV o ov→RelV i iv→RelV v u→t o i v H Q →
  wpAny (model X.prog X.w) X.A (setItem ov iv u) (fun _ s'=>∃ H',Inv X pins σ H' s'∧Q H') X.xe s
section
variable {X:Cx} {pos:Pos}
def zbR (i:Nat):TG:=fun v σ H Q=>Q (σ.set i (some v)) H
theorem zax {i:Nat} {x:Str} (hN:X.N.Nodup) (hi:X.N[i]? = some x) (hx:Loc X.env.scope x) (hf:X.fn x=true∨X.env.scope.names.lookup x=some .local:=by first | exact .inl rfl | exact .inr rfl | assumption):PG X (.Name x pos) (zbR i):=by
 intro pins s σ H v u Q I r h
 exact wpAny_assign_Name (z90 I hN hi hx r (fun s' I'=>⟨_,H,I',h⟩) hf)
def gNil:TGs:=fun vs σ H Q=>vs=[]∧Q σ H
def gCons (t:TG) (u:TGs):TGs:=fun vs σ H Q=>∃ v r,vs=v :: r∧t v σ H fun σ' H'=>u r σ' H' Q
theorem zaw:PGs X [] gNil:=by
 intro pins s σ H vs us Q I r h
 obtain ⟨e,h⟩:=h
 subst e
 cases r
 exact assignInOrder_nil ⟨σ,H,I,h⟩
theorem z98 {e:Expr} {es:List Expr} {t:TG} {u:TGs} (h1:PG X e t) (h2:PGs X es u)
  (hs:(assignEach (e :: es) X.env).map (·.2)=assign e X.env :: (assignEach es X.env).map (·.2):=by rfl):PGs X (e :: es) (gCons t u):=by
 intro pins s σ H vs us Q I r h
 obtain ⟨v,vr,e1,h⟩:=h
 subst e1
 cases r with
 | cons r rr =>
  rw [hs]
  refine assignInOrder_cons (thn (h1 pins s σ H _ _ _ I r h) fun _ s1 ⟨σ1,H1,I1,q1⟩=>?_)
  exact h2 pins s1 σ1 H1 _ _ Q I1 rr q1
def gTup (K:PySem.W.Frag) (n:Nat) (t:TGs):TG:=fun v σ H Q=>∃ a xs,v = .ref a∧SqT K H a xs∧xs.length=n∧t xs σ H Q
theorem zca {es:List Expr} {k:Nat} {t:TGs} {n:Nat} (hc:X.calm=true) (h:PGs X es t)
  (hn:(assignEach es X.env).length=n:=by rfl) (hst:(assignEach es X.env).findIdx? (·.1)=none:=by rfl):PG X (.Tuple es k pos) (gTup X.K n t):=by
 intro pins s σ H v u Q I r hw
 obtain ⟨a,xs,e1,hq,hl,hw⟩:=hw
 subst e1
 cases r
 obtain ⟨its,rv,ht,hz⟩:=I.tuple hq
 refine assign_Tuple_tuple (I.ok.hd hc) ht (by simp [hn,← hl,rv.length]) hst fun h' hx=>?_
 have I1:Inv X pins σ H { s with heap:=h' }:=I.kept (t':=s.toks) fun b o e=>hx b o (Nat.ne_of_lt (Heap.lt_size e)) e
 exact h pins _ σ H xs _ Q I1 (by simpa using rv) hw
def gSub (to ti:TE) (t:TSet):TG:=fun v σ H Q=>to σ H fun o H1=>ti σ H1 fun i H2=>t o i v H2 fun H3=>Q σ H3
theorem zee {o i:Expr} {to ti:TE} {t:TSet} (ho:PE X o to) (hi:PE X i ti) (hs:PSet X t)
  (ha:∀ v,assign (.Subscript o i pos) X.env v=(do
   let ov ← holding [v] (eval o X.env)
   let iv ← holding [v,ov] (eval i X.env)
   standAt pos
   holding [v,ov,iv] (setItem ov iv v)
   release [v,ov,iv] []):=by intro _; rfl):PG X (.Subscript o i pos) (gSub to ti t):=by
 intro pins s σ H v u Q I r h
 rw [ha]
 refine wpAny_bind (wpAny_holding (thn (ho pins s σ H _ I h) fun ov s1 ⟨x,H1,I1,r1,q1⟩=>?_))
 refine wpAny_bind (wpAny_holding (thn (hi pins s1 σ H1 _ I1 q1) fun iv s2 ⟨y,H2,I2,r2,q2⟩=>?_))
 refine wpAny_bind (wpAny_standAt (wpAny_bind (wpAny_holding (thn (hs pins s2 σ H2 x y v ov iv u _ I2 r1 r2 r q2) fun _ s3 ⟨H3,I3,q3⟩=>?_))))
 exact wpAny_release ⟨σ,H3,I3,q3⟩
def tAsg (te:TE) (g:TG):TS:=fun D σ H=>te σ H fun x H1=>g x σ H1 D.nx
theorem zc9 {tg e:Expr} {te:TE} {g:TG} (he:PE X e te) (hg:PG X tg g) (hs:swapsWithSole [tg] e pos.line X.env=pure false:=by rfl) (hw:swappedStores [tg] e X.env=pure none:=by rfl)
  (h1:(assignEach [tg] X.env).map (·.2)=[assign tg X.env]:=by rfl):PS X (.Assign [tg] e pos) (tAsg te g):=by
 intro pins s σ H D I h
 refine wpAny_Assign_stores (thn (he pins s σ H _ I h) fun v s1 ⟨x,H1,I1,r1,q1⟩=>?_) hs hw
 rw [h1]
 exact thn (hg pins s1 σ H1 x v _ I1 r1 q1) fun _ s2 q=>q
theorem zeb {i:Nat} {x:Str} {e:Expr} {te:TE} {pos':Pos} (hN:X.N.Nodup) (hi:X.N[i]? = some x) (hx:Loc X.env.scope x) (he:PE X e te) (hs:swapsWith e (some (.Name x pos')) pos.line X.env=pure false:=by rfl) (hf:X.fn x=true∨X.env.scope.names.lookup x=some .local:=by first | exact .inl rfl | exact .inr rfl | assumption) :
  PS X (.Assign [.Name x pos'] e pos) (tAsg te (zbR i)):=by
 intro pins s σ H D I h
 refine wpAny_Assign_Name (thn (he pins s σ H _ I h) fun v s1 ⟨y,H1,I1,r1,q1⟩=>?_) hs
 exact z90 I1 hN hi hx r1 (fun s2 I2=>⟨_,H1,I2,q1⟩) hf
end
section
variable {X:Cx} {pos:Pos}
end
structure It where
 go:Nat→Hp→Prop
 yld:Nat→Hp→V→Hp→Prop
 stop:Nat→Hp→Prop
def FpOk (X:Cx) (pins:List (Addr×Obj)) (H:Hp) (b:Addr):Prop :=
 H b=none∧b≠X.env.locals∧b ∉ X.fs∧(b ∈ X.ex∨X.s₀.heap.objs.size≤b)∧(∀ x c,X.env.cells.lookup x=some c→c≠b)∧∀ p ∈ X.pn ++ pins,p.1≠b
theorem Inv.fpOk {X:Cx} {pins:List (Addr×Obj)} {σ:St} {H H':Hp} {s:Shared} {b:Addr} (I:Inv X pins σ H s) (hb:s.heap.objs.size≤b) (hn:H' b=none):FpOk X pins H' b:=by
 refine ⟨hn,Nat.ne_of_gt (Nat.lt_of_lt_of_le I.lt hb),I.nofs hb,.inr (Nat.le_trans I.sz hb),fun x c e z=>?_,fun p hp z=>?_⟩
 ·obtain ⟨v,q⟩:=I.cell x c e
  exact absurd (Nat.lt_of_lt_of_le q.lt (by rw [z]; exact hb)) (Nat.lt_irrefl _)
 ·exact absurd (Nat.lt_of_lt_of_le (Heap.lt_size (I.pin p hp).1) (by rw [z]; exact hb)) (Nat.lt_irrefl _)
structure Turn (P:Program) (w:World) (K:PySem.W.Frag) (tg:Expr) (J:It) (fp:List Addr) (it:Addr) (tn:Nat→Heap→Prop):Prop where
 mem:it ∈ fp
 obj:∀ i h,tn i h→∀ b ∈ fp,∃ o,h.get? b=some o∧∀ v,o.data≠.cell v
 keep:∀ i h h',tn i h→(∀ b ∈ fp,∀ o,h.get? b=some o→h'.get? b=some o)→tn i h'
 item:∀ (X:Cx),X.prog=P→X.w=w→X.K=K→X.calm=true→∀ (i:Nat) (pins:List (Addr×Obj)) (s:Shared) (σ:St) (H:Hp) (E:Value→Shared→Prop),Inv X pins σ H s→(∀ b ∈ fp,FpOk X pins H b)→tn i s.heap→J.go i H →
  wpAny (model P w) X.A (pyNext (.ref it)) (fun r s1=>∃ u,r=some u ∧
   wpAny (model P w) X.A (letOwnedTupleGo tg (.ref it) u) (fun _ s2=>∃ x H',Inv X pins σ H' s2∧RelV x u∧J.yld i H x H'∧tn (i + 1) s2.heap∧∀ b ∈ fp,H' b=none) E s1) E s
 done:∀ (X:Cx),X.prog=P→X.w=w→X.K=K→X.calm=true→∀ (i:Nat) (pins:List (Addr×Obj)) (s:Shared) (σ:St) (H:Hp) (E:Value→Shared→Prop),Inv X pins σ H s→(∀ b ∈ fp,FpOk X pins H b)→tn i s.heap→J.stop i H →
  wpAny (model P w) X.A (pyNext (.ref it)) (fun r s1=>r=none∧Inv X pins σ H s1) E s
 self:∀ (A:Around) (i:Nat) (s:Shared) (Q:Value→Shared→Prop) (E:Value→Shared→Prop),tn i s.heap→Q (.ref it) s→wpAny (model P w) A (pyIter (.ref it)) Q E s
abbrev TI:=St→Hp→(It→Hp→Prop)→Prop
def PIE (X:Cx) (pins:List (Addr×Obj)) (σ:St) (tg:Expr) (R:It→Hp→Prop) (itv:Value) (s2:Shared):Prop :=
 ∃ (it:Addr) (fp:List Addr) (tn:Nat→Heap→Prop) (J:It) (H':Hp),itv = .ref it∧Inv X pins σ H' s2∧Turn X.prog X.w X.K tg J fp it tn∧tn 0 s2.heap∧(∀ b ∈ fp,FpOk X pins H' b)∧R J H'
def PI (X:Cx) (tg iter:Expr) (wi:TI):Prop :=
 ∀ (pins:List (Addr×Obj)) (s:Shared) (σ:St) (H:Hp) (R:It→Hp→Prop),Inv X pins σ H s→wi σ H R →
  wpAny (model X.prog X.w) X.A (eval iter X.env) (fun v s1=>wpAny (model X.prog X.w) X.A (pyIter v) (PIE X pins σ tg R) X.xe s1) X.xe s
theorem zbQ {M:Model} {A:Around} {E:Value→Shared→Prop} {s:Shared} {tg:Expr} {it:Addr} {u:Value} {o:Obj} {n:String} {vs:Array Value} {Q:Unit→Shared→Prop} (ho:s.heap.get? it=some o) (hc:o.cls = .type n) (hd:o.data = .fields vs)
  (hn:["enumerate","zip","dict_itemiterator","dict_reverseitemiterator","odict_iterator","itertools.zip_longest","itertools.pairwise"].contains n=false) (hQ:Q () s):wpAny M A (letOwnedTupleGo tg (.ref it) u) Q E s:=by
 unfold letOwnedTupleGo
 cases tg <;> first
  | exact wpAny_pure hQ
  | (cases u <;> first
    | exact wpAny_pure hQ
    | (refine wpAny_bind (wpAny_load ho ?_); rw [hc,hd]; show wpAny M A (if (["enumerate","zip","dict_itemiterator","dict_reverseitemiterator","odict_iterator","itertools.zip_longest","itertools.pairwise"].contains n && vs[0]? == some (rawInt _))=true then _ else _) Q E s; rw [if_neg (by intro h; rw [hn,Bool.false_and] at h; cases h)]; exact wpAny_pure hQ))
def Itl (K:PySem.W.Frag) (a:Addr):It :=
 ⟨fun i H=>∃ xs x,SqL K H a xs∧xs[i]? = some x,fun i H x H'=>H'=H∧∀ xs,SqL K H a xs→xs[i]? = some x,fun i H=>∃ xs,SqL K H a xs∧xs.length≤i⟩
def Itt (K:PySem.W.Frag) (a:Addr):It :=
 ⟨fun i H=>∃ xs x,SqT K H a xs∧xs[i]? = some x,fun i H x H'=>H'=H∧∀ xs,SqT K H a xs→xs[i]? = some x,fun i H=>∃ xs,SqT K H a xs∧xs.length≤i⟩
def Itr (lo:Int) (n:Nat):It:=⟨fun i _=>i < n,fun i H x H'=>H'=H∧x = .int (lo + i),fun i _=>n≤i⟩
theorem z9X {P:Program} {w:World} {K:PySem.W.Frag} {tg:Expr} (a it:Addr):Turn P w K tg (Itl K a) [it] it (fun i h=>h.IsListIter it a i) where
 mem:=by simp
 obj:=fun i h st b hb=>by
  have e:b=it:=by simpa using hb
  subst e
  obtain ⟨o,e,c,d⟩:=st
  exact ⟨o,e,fun v z=>by rw [d] at z; cases z⟩
 keep:=fun i h h' st k=>st.at fun o e=>k it (by simp) o e
 item:=by
  intro X hP hw hK hc i pins s σ H E I hf st hg
  subst hP hw hK
  obtain ⟨xs,x,hq,hx⟩:=hg
  obtain ⟨its,rv,p,hz⟩:=I.list hq
  obtain ⟨u,hu,ru⟩:=rv.get hx
  obtain ⟨f0,f1,f2,f3,f4,f5⟩:=hf it (by simp)
  refine wpAny_pyNext_list_item st p.isList (x:=u) (by simpa using hu) fun h' st' sb=>?_
  have I1:Inv X pins σ H { s with heap:=h' }:=I.turned (t':=s.toks) (fun b o hb e=>(sb.2 b hb).trans e) f0 f1 f3 f4 f5
  obtain ⟨o,e,c,d⟩:=id st'
  exact ⟨u,rfl,zbQ (s:={ s with heap:=h' }) e c d (by decide) ⟨x,H,I1,ru,⟨rfl,fun ys hy=>by rw [I.list_inj hy hq]; exact hx⟩,st',fun b hb=>(hf b hb).1⟩⟩
 done:=by
  intro X hP hw hK hc i pins s σ H E I hf st hg
  subst hP hw hK
  obtain ⟨xs,hq,hx⟩:=hg
  obtain ⟨its,rv,p,hz⟩:=I.list hq
  obtain ⟨f0,f1,f2,f3,f4,f5⟩:=hf it (by simp)
  have hl:=rv.length
  exact wpAny_pyNext_list_end (I.ok.hd hc) st p.isList (by simp; omega) fun h' eb=>⟨rfl,I.turned (t':=s.toks) (fun b o hb e=>eb b o hb e) f0 f1 f3 f4 f5⟩
 self:=fun _ _ _ _ _ st h=>wpAny_pyIter_listiter st h
theorem z9x {P:Program} {w:World} {K:PySem.W.Frag} {tg:Expr} (a it:Addr):Turn P w K tg (Itt K a) [it] it (fun i h=>h.IsTupleIter it a i) where
 mem:=by simp
 obj:=fun i h st b hb=>by
  have e:b=it:=by simpa using hb
  subst e
  obtain ⟨o,e,c,d⟩:=st
  exact ⟨o,e,fun v z=>by rw [d] at z; cases z⟩
 keep:=fun i h h' st k=>st.at fun o e=>k it (by simp) o e
 item:=by
  intro X hP hw hK hc i pins s σ H E I hf st hg
  subst hP hw hK
  obtain ⟨xs,x,hq,hx⟩:=hg
  obtain ⟨its,rv,p,hz⟩:=I.tuple hq
  obtain ⟨u,hu,ru⟩:=rv.get hx
  obtain ⟨f0,f1,f2,f3,f4,f5⟩:=hf it (by simp)
  refine wpAny_pyNext_tuple_item st (show s.heap.IsTuple a its.toArray from p) (x:=u) (by simpa using hu) fun h' st' sb=>?_
  have I1:Inv X pins σ H { s with heap:=h' }:=I.turned (t':=s.toks) (fun b o hb e=>(sb.2 b hb).trans e) f0 f1 f3 f4 f5
  obtain ⟨o,e,c,d⟩:=id st'
  exact ⟨u,rfl,zbQ (s:={ s with heap:=h' }) e c d (by decide) ⟨x,H,I1,ru,⟨rfl,fun ys hy=>by rw [I.tuple_inj hy hq]; exact hx⟩,st',fun b hb=>(hf b hb).1⟩⟩
 done:=by
  intro X hP hw hK hc i pins s σ H E I hf st hg
  subst hP hw hK
  obtain ⟨xs,hq,hx⟩:=hg
  obtain ⟨its,rv,p,hz⟩:=I.tuple hq
  obtain ⟨f0,f1,f2,f3,f4,f5⟩:=hf it (by simp)
  have hl:=rv.length
  exact wpAny_pyNext_tuple_end (I.ok.hd hc) st (show s.heap.IsTuple a its.toArray from p) (by simp; omega) fun h' eb=>⟨rfl,I.turned (t':=s.toks) (fun b o hb e=>eb b o hb e) f0 f1 f3 f4 f5⟩
 self:=fun _ _ _ _ _ st h=>wpAny_pyIter_tupleiter st h
theorem z9y {P:Program} {w:World} {K:PySem.W.Frag} {tg:Expr} (it:Addr) (lo:Int) (n:Nat):Turn P w K tg (Itr lo n) [it] it (fun i h=>IsRangeIter h it (lo + (i:Nat) * 1) ((n:Int) - (i:Nat)) 1) where
 mem:=by simp
 obj:=fun i h st b hb=>by
  have e:b=it:=by simpa using hb
  subst e
  exact ⟨_,st,fun v z=>by
   have z':Data.fields _=Data.cell v:=z
   cases z'⟩
 keep:=fun i h h' st k=>k it (by simp) _ st
 item:=by
  intro X hP hw hK hc i pins s σ H E I hf st hg
  subst hP hw hK
  obtain ⟨f0,f1,f2,f3,f4,f5⟩:=hf it (by simp)
  have W:=Walks.range (prog:=X.prog) (w:=X.w) (I.ok.hd hc) it lo 1 n
  refine W.item i s _ _ hg st fun v h' tk hv st' kk=>?_
  obtain ⟨t,rfl⟩:=hv
  have I1:Inv X pins σ H { s with heap:=h',toks:=tk }:=I.turned (fun b o hb e=>kk b o (by simpa using hb) e) f0 f1 f3 f4 f5
  refine ⟨_,rfl,zbQ (s:={ s with heap:=h',toks:=tk }) (n:="range_iterator") st' rfl rfl (by decide) ⟨.int (lo + i),H,I1,⟨t,?_⟩,⟨rfl,rfl⟩,st',fun b hb=>(hf b hb).1⟩⟩
  rw [Int.mul_one]
 done:=by
  intro X hP hw hK hc i pins s σ H E I hf st hg
  subst hP hw hK
  obtain ⟨f0,f1,f2,f3,f4,f5⟩:=hf it (by simp)
  exact wpAny_pyNext_range_end (I.ok.hd hc) st (by have:n≤i:=hg; omega) fun h' eb=>⟨rfl,I.turned (t':=s.toks) (fun b o hb e=>eb b o hb e) f0 f1 f3 f4 f5⟩
 self:=fun _ _ _ _ _ st h=>wpAny_pyIter_rangeiter st h
open PySem PySem.Spec PyProof.Rows
section
variable {X:Cx} {tg:Expr}
theorem zbw {pins:List (Addr×Obj)} {σ:St} {H:Hp} {s:Shared} {R:It→Hp→Prop} {E:Value→Shared→Prop} {lo hi:Int} {t u v:Tok} {tk:Nat} (I:Inv X pins σ H s) (h1 : -(2 ^ 62)≤lo) (h2:lo < 2 ^ 62) (h3 : -(2 ^ 62)≤hi) (h4:hi < 2 ^ 62)
  (q:R (Itr lo (hi - lo).toNat) H):wpAny (model X.prog X.w) X.A (pyIter (.ref s.heap.objs.size)) (PIE X pins σ tg R) E { s with heap:=s.heap.push { cls:=.type "range",data:=.fields #[.int lo t,.int hi u,.int 1 v] },toks:=tk }:=by
 refine wpAny_pyIter_range (IsRange.new ..) (small_one h1 h2 h3 h4) ?_
 have I1:Inv X pins σ H { s with heap:=s.heap.push { cls:=.type "range",data:=.fields #[.int lo t,.int hi u,.int 1 v] },toks:=tk }:=I.kept fun b o e=>Heap.get?_push_of_some _ e
 refine ⟨(s.heap.push { cls:=.type "range",data:=.fields #[.int lo t,.int hi u,.int 1 v] }).objs.size,[(s.heap.push { cls:=.type "range",data:=.fields #[.int lo t,.int hi u,.int 1 v] }).objs.size],_,_,H,rfl,
  I1.kept (t':=tk) fun b o e=>Heap.get?_push_of_some _ e,z9y _ lo (hi - lo).toNat,?_,fun b hb=>?_,q⟩
 ·have e1:lo + ((0:Nat):Int) * 1=lo:=by simp
  have e2:(((hi - lo).toNat:Nat):Int) - ((0:Nat):Int)=Builtin.Range.rangeSize lo hi 1:=by rw [rangeSize_one]; split <;> omega
  show IsRangeIter _ _ (lo + ((0:Nat):Int) * 1) ((((hi - lo).toNat:Nat):Int) - ((0:Nat):Int)) 1
  rw [e1,e2]
  exact Heap.get?_push_size _ rfl
 ·have e:b=(s.heap.push { cls:=.type "range",data:=.fields #[.int lo t,.int hi u,.int 1 v] }).objs.size:=by simpa using hb
  subst e
  exact I1.fpOk (Nat.le_refl _) (I1.hok.fresh (Nat.le_refl _))
def iRng1 (ta:TA):TI:=fun σ H R=>ta σ H fun vs H1=>∃ j:Int,vs=[.int j]∧-(2 ^ 62)≤j∧j < 2 ^ 62∧R (Itr 0 j.toNat) H1
theorem zav {a:Expr} {ta:TA} {p pos:Pos} (hg:Gl X "range") (hm:X.mg "range" = none) (ha:PA X [a] ta) (hs:starEach [a] X.env=[(false,eval a X.env)]:=by rfl):PI X tg (.Call (.Name "range" p) [a] [] pos) (iRng1 ta):=by
 intro pins s σ H R I h
 refine Call_ (z9d I hg hm boot_range (PyProof.Rows.callWith_type1 (thn (ha pos pins s σ H _ I h) fun us s1 ⟨vs,H1,I1,r1,q1⟩=>?_) hs rfl))
 obtain ⟨j,e,q1,q2,q⟩:=q1
 subst e
 cases r1 with
 | cons r rr =>
  cases rr
  obtain ⟨t,rfl⟩:=r
  exact call_range_1 (zbw I1 (by omega) (by omega) q1 q2 (by simpa using q))
def tFor (wi:TI) (g:TG) (tb:TS):TS:=fun D σ H=>wi σ H fun J H1=>∃ W:Nat→Nat→St→Hp→Prop,(∃ m,W 0 m σ H1)∧∀ i m σ H,W i m σ H →
 (J.stop i H∧D.nx σ H)∨(J.go i H∧∃ N:St→Hp→Prop,(∀ σ' H',N σ' H'→∃ m',m' < m∧W (i + 1) m' σ' H')∧∀ x H',J.yld i H x H'→g x σ H' fun σ2 H2=>tb { D with nx:=N,ct:=N,bk:=D.nx } σ2 H2)
def z7Y (fp:List Addr) (h:Heap):List (Addr×Obj):=fp.filterMap fun b=>(h.get? b).map fun o=>(b,o)
theorem z47 {fp:List Addr} {h:Heap} {b:Addr} {o:Obj} (hb:b ∈ fp) (e:h.get? b=some o):(b,o) ∈ z7Y fp h:=List.mem_filterMap.mpr ⟨b,hb,by rw [e]; rfl⟩
theorem zaF {fp:List Addr} {h:Heap} {p:Addr×Obj} (hp:p ∈ z7Y fp h):p.1 ∈ fp∧h.get? p.1=some p.2:=by
 obtain ⟨b,hb,e⟩:=List.mem_filterMap.mp hp
 cases q:h.get? b with
 | none=>rw [q] at e; cases e
 | some o =>
  rw [q] at e
  have e':(b,o)=p:=Option.some.inj e
  subst e'
  exact ⟨hb,q⟩
theorem Inv.pinned {pins:List (Addr×Obj)} {σ:St} {H:Hp} {s:Shared} {fp:List Addr} (I:Inv X pins σ H s) (hf:∀ b ∈ fp,FpOk X pins H b) (ho:∀ b ∈ fp,∃ o,s.heap.get? b=some o∧∀ v,o.data≠.cell v):Inv X (pins ++ z7Y fp s.heap) σ H s :=
 I.pins_of fun p hp=>(List.mem_append.mp hp).elim (fun z=>I.pin p (List.mem_append_right _ z)) fun z=>by
  obtain ⟨hb,e⟩:=zaF z
  obtain ⟨f0,f1,f2,_⟩:=hf p.1 hb
  obtain ⟨o,e',d⟩:=ho p.1 hb
  rw [e] at e'; cases e'
  exact ⟨e,f0,f1,f2,d⟩
theorem Inv.unpinned {pins pl:List (Addr×Obj)} {σ:St} {H:Hp} {s:Shared} (I:Inv X (pins ++ pl) σ H s):Inv X pins σ H s:=I.pins_of fun p hp=>I.pin p (List.mem_append_right _ (List.mem_append_left _ hp))
theorem zed {iter:Expr} {body:List Stmt} {wi:TI} {g:TG} {tb:TS} {pos:Pos} (hp:PassesOwn (model X.prog X.w) X.A X.env X.xe) (hc:X.calm=true) (hi:PI X tg iter wi) (hg:PG X tg g) (hb:PSs X body tb)
  (hs:∀ x,foldedSetIterable iter X.env x=pure x:=by intro _; rfl):PS X (.For tg iter body [] pos) (tFor wi g tb):=by
 intro pins s σ H D I h
 refine wpAny_For (thn (hi pins s σ H _ I h) fun v s1 h1=>thn h1 fun itv s2 h2=>?_) hs
 obtain ⟨it,fp,tn,J,H2,e,I2,T,st2,f2,W,⟨m0,w0⟩,turn⟩:=h2
 subst e
 -- what stays true of the iterator's objects through the loop
 have stat:∀ {H':Hp},(∀ b ∈ fp,H' b=none)→∀ b ∈ fp,FpOk X pins H' b:=fun hn b hb=>⟨hn b hb,(f2 b hb).2⟩
 refine codeAny_forLoop_any (fun n s'=>∃ i σ' H',Inv X pins σ' H' s'∧tn i s'.heap∧(∀ b ∈ fp,H' b=none)∧W i n σ' H') ?_ m0 ⟨0,σ,H2,I2,st2,fun b hb=>(f2 b hb).1,w0⟩
 rintro n s3 ⟨i,σ3,H3,I3,st3,fr3,w3⟩
 rcases turn i n σ3 H3 w3 with ⟨stop,qn⟩ | ⟨go,N,hN,step⟩
 ·refine wpAny_passesOwn hp (thn (T.done X rfl rfl rfl hc i pins s3 σ3 H3 X.xe I3 (stat fr3) st3 stop) fun r s4 ⟨hr,I4⟩=>?_)
  subst hr
  exact wpAny_execs_nil ⟨σ3,H3,I4,qn⟩
 ·refine wpAny_passesOwn hp (thn (T.item X rfl rfl rfl hc i pins s3 σ3 H3 X.xe I3 (stat fr3) st3 go) fun r s4 ⟨u,hr,h4⟩=>?_)
  subst hr
  refine wpAny_passesOwn hp (thn h4 fun _ s5 ⟨x,H5,I5,r5,y5,st5,fr5⟩=>?_)
  have I5':=I5.pinned (stat fr5) (T.obj _ _ st5)
  refine wpAny_passesOwn hp (thn (hg _ s5 σ3 H5 x u _ I5' r5 (step x H5 y5)) fun _ s6 ⟨σ6,H6,I6,q6⟩=>?_)
  refine wpAny_passesOwn hp (thn (hb _ s6 σ6 H6 _ I6 q6) fun f s7 q7=>?_)
  have again:∀ {σ7:St} {H7:Hp},Inv X (pins ++ z7Y fp s5.heap) σ7 H7 s7→N σ7 H7→∃ m,m < n∧∃ i σ' H',Inv X pins σ' H' s7∧tn i s7.heap∧(∀ b ∈ fp,H' b=none)∧W i m σ' H':=fun {σ7 H7} I7 n7=>by
   obtain ⟨m',hm,w7⟩:=hN σ7 H7 n7
   refine ⟨m',hm,i + 1,σ7,H7,I7.unpinned,T.keep _ _ _ st5 fun b hb o e=>(I7.pin (b,o) (List.mem_append_right _ (List.mem_append_right _ (z47 hb e)))).1,fun b hb=>?_,w7⟩
   obtain ⟨o,e,d⟩:=T.obj _ _ st5 b hb
   exact (I7.pin (b,o) (List.mem_append_right _ (List.mem_append_right _ (z47 hb e)))).2.1
  cases f with
  | next=>obtain ⟨σ7,H7,I7,n7⟩:=q7; exact again I7 n7
  | cont=>obtain ⟨σ7,H7,I7,n7⟩:=q7; exact again I7 n7
  | brk=>obtain ⟨σ7,H7,I7,q7⟩:=q7; exact ⟨σ7,H7,I7.unpinned,q7⟩
  | ret v=>obtain ⟨x7,σ7,H7,I7,r7,q7⟩:=q7; exact ⟨x7,σ7,H7,I7.unpinned,r7,q7⟩
end
open PySem PySem.Spec PyProof.Rows
abbrev R2:=V→V→Hp→VK→Prop
def OpR (X:Cx) (f:Value→Value→Sem Value) (r:R2):Prop :=
 ∀ (pins:List (Addr×Obj)) (s:Shared) (σ:St) (H:Hp) (x y:V) (v u:Value) (Q:VK),Inv X pins σ H s→RelV x v→RelV y u→r x y H Q →
  wpAny (model X.prog X.w) X.A (f v u) (EP X pins σ Q) X.xe s
def UnR (X:Cx) (f:Value→Sem Value) (r:V→Hp→VK→Prop):Prop :=
 ∀ (pins:List (Addr×Obj)) (s:Shared) (σ:St) (H:Hp) (x:V) (v:Value) (Q:VK),Inv X pins σ H s→RelV x v→r x H Q →
  wpAny (model X.prog X.w) X.A (f v) (EP X pins σ Q) X.xe s
def CallR (X:Cx) (f:Value) (r:List V→Hp→VK→Prop):Prop :=
 ∀ (pins:List (Addr×Obj)) (s:Shared) (σ:St) (H:Hp) (xs:List V) (us:List Value) (Q:VK),Inv X pins σ H s→Vals xs us→r xs H Q →
  wpAny (model X.prog X.w) X.A (call f us) (EP X pins σ Q) X.xe s
def tOp (r:R2) (ta tb:TE):TE:=fun σ H Q=>ta σ H fun x H1=>tb σ H1 fun y H2=>r x y H2 Q
def tUn (r:V→Hp→VK→Prop) (ta:TE):TE:=fun σ H Q=>ta σ H fun x H1=>r x H1 Q
def rI (C:Int→Int→Prop) (g:Int→Int→V):R2:=fun x y H Q=>∃ i j,x = .int i∧y = .int j∧C i j∧Q (g i j) H
def rI0 (g:Int→Int→V):R2:=fun x y H Q=>∃ i j,x = .int i∧y = .int j∧Q (g i j) H
def rU (g:Int→V):V→Hp→VK→Prop:=fun x H Q=>∃ i,x = .int i∧Q (g i) H
section
variable {X:Cx} {a b c:Expr} {ta tb tc:TE} {pos:Pos}
theorem binT (ha:PE X a ta) (hb:PE X b tb) {pins:List (Addr×Obj)} {s:Shared} {σ:St} {H:Hp} {R:V→V→Hp→Prop} (I:Inv X pins σ H s)
  (h:ta σ H fun x H1=>tb σ H1 fun y H2=>R x y H2) {Q:Value→Shared→Prop} {f:Value→Value→Sem Value}
  (hf:∀ v u s2 x y H2,Inv X pins σ H2 s2→RelV x v→RelV y u→R x y H2→wpAny (model X.prog X.w) X.A (f v u) Q X.xe s2) :
  wpAny (model X.prog X.w) X.A (eval a X.env) (fun v s₁=>wpAny (model X.prog X.w) X.A (eval b X.env) (fun u s₂=>wpAny (model X.prog X.w) X.A (f v u) Q X.xe s₂) X.xe s₁) X.xe s:=by
 refine thn (ha pins s σ H _ I h) fun v s1 ⟨x,H1,I1,r1,q1⟩=>?_
 refine thn (hb pins s1 σ H1 _ I1 q1) fun u s2 ⟨y,H2,I2,r2,q2⟩=>?_
 exact hf v u s2 x y H2 I2 r1 r2 q2
theorem zej {op:Operator} {r:R2} (ho:OpR X (binaryOp op) r) (ha:PE X a ta) (hb:PE X b tb):PE X (.BinOp a op b pos) (tOp r ta tb):=by
 intro pins s σ H Q I h
 exact wpAny_BinOp (binT ha hb I h fun v u s2 x y H2 I2 rx ry q=>ho pins s2 σ H2 x y v u Q I2 rx ry q)
theorem zeg {op:UnaryOp} {r:V→Hp→VK→Prop} (ho:UnR X (unaryOp op) r) (ha:PE X a ta):PE X (.UnaryOp op a pos) (tUn r ta):=by
 intro pins s σ H Q I h
 exact UnaryOp_ (thn (ha pins s σ H _ I h) fun v s1 ⟨x,H1,I1,r1,q1⟩=>ho pins s1 σ H1 x v Q I1 r1 q1)
theorem opI {f:Value→Value→Sem Value} {C:Int→Int→Prop} {g:Int→Int→Int}
  (rule:∀ (i j:Int) (t u:Tok) (s:Shared) (Q:Value→Shared→Prop) (E:Value→Shared→Prop),C i j→Q (.int (g i j) s.toks) { s with toks:=s.toks + 1 }→wpAny (model X.prog X.w) X.A (f (.int i t) (.int j u)) Q E s) :
  OpR X f (rI C fun i j=>.int (g i j)):=by
 intro pins s σ H x y v u Q I rx ry h
 obtain ⟨i,j,rfl,rfl,hc,q⟩:=h
 obtain ⟨t,rfl⟩:=rx
 obtain ⟨t',rfl⟩:=ry
 exact rule i j t t' s _ _ hc ⟨.int (g i j),H,I.tok _,⟨_,rfl⟩,q⟩
theorem opI0 {f:Value→Value→Sem Value} {g:Int→Int→Int}
  (rule:∀ (i j:Int) (t u:Tok) (s:Shared) (Q:Value→Shared→Prop) (E:Value→Shared→Prop),Q (.int (g i j) s.toks) { s with toks:=s.toks + 1 }→wpAny (model X.prog X.w) X.A (f (.int i t) (.int j u)) Q E s) :
  OpR X f (rI0 fun i j=>.int (g i j)):=by
 intro pins s σ H x y v u Q I rx ry h
 obtain ⟨i,j,rfl,rfl,q⟩:=h
 obtain ⟨t,rfl⟩:=rx
 obtain ⟨t',rfl⟩:=ry
 exact rule i j t t' s _ _ ⟨.int (g i j),H,I.tok _,⟨_,rfl⟩,q⟩
theorem opB0 {f:Value→Value→Sem Value} {g:Int→Int→Bool}
  (rule:∀ (i j:Int) (t u:Tok) (s:Shared) (Q:Value→Shared→Prop) (E:Value→Shared→Prop),Q (.bool (g i j)) s→wpAny (model X.prog X.w) X.A (f (.int i t) (.int j u)) Q E s) :
  OpR X f (rI0 fun i j=>.bl (g i j)):=by
 intro pins s σ H x y v u Q I rx ry h
 obtain ⟨i,j,rfl,rfl,q⟩:=h
 obtain ⟨t,rfl⟩:=rx
 obtain ⟨t',rfl⟩:=ry
 exact rule i j t t' s _ _ ⟨.bl (g i j),H,I,rfl,q⟩
def CDiv (i j:Int):Prop:=0 < j∧j < 1073741824
def CPow (i j:Int):Prop:=0≤j∧j≤1000000∧i.natAbs < 2 ^ 64
def CMul (i j:Int):Prop:=(-(2 ^ 64) < i∧i < 2 ^ 64)∨(-(2 ^ 64) < j∧j < 2 ^ 64)
theorem CMul.ok {i j:Int} (h:CMul i j):IntMulOk i j:=by
 rcases h with ⟨h1,h2⟩ | ⟨h1,h2⟩
 ·exact .of_left (intBits_le_64 h1 h2)
 ·exact .of_right (intBits_le_64 h1 h2)
theorem op_add:OpR X (binaryOp .Add) (rI0 fun i j=>.int (i + j)):=opI0 fun _ _ _ _ _ _ _ q=>add_int q
theorem z1R:OpR X (binaryOp .Sub) (rI0 fun i j=>.int (i - j)):=opI0 fun _ _ _ _ _ _ _ q=>sub_int q
theorem op_mul:OpR X (binaryOp .Mult) (rI CMul fun i j=>.int (i * j)):=opI fun _ _ _ _ _ _ _ hc q=>mul_int q hc.ok
theorem z4l:OpR X (binaryOp .FloorDiv) (rI CDiv fun i j=>.int (i / j)):=opI fun i j _ _ _ _ _ hc q=>by
 have h1:(0:Int) < j:=hc.1
 have h2:j < 1073741824:=hc.2
 exact floordiv_int (by omega) (by rw [Int.fdiv_eq_ediv_of_nonneg i (by omega)]; exact q) (.inl (PyProof.noPylong_small (by omega)))
theorem z80:OpR X (binaryOp .Mod) (rI (fun _ j=>0 < j) fun i j=>.int (i % j)):=opI fun i j _ _ _ _ _ hc q=>by
 have h1:(0:Int) < j:=hc
 exact mod_int' (by omega) (by rw [Int.fmod_eq_emod_of_nonneg i (by omega)]; exact q)
theorem zer:OpR X (binaryOp .Pow) (rI CPow fun i j=>.int (i ^ j.toNat)):=opI fun _ _ _ _ _ _ _ hc q=>pow_int_small hc.1 hc.2.1 hc.2.2 q
theorem unI {f:Value→Sem Value} {g:Int→Int}
  (rule:∀ (i:Int) (t:Tok) (s:Shared) (Q:Value→Shared→Prop) (E:Value→Shared→Prop),Q (.int (g i) s.toks) { s with toks:=s.toks + 1 }→wpAny (model X.prog X.w) X.A (f (.int i t)) Q E s) :
  UnR X f (rU fun i=>.int (g i)):=by
 intro pins s σ H x v Q I rx h
 obtain ⟨i,rfl,q⟩:=h
 obtain ⟨t,rfl⟩:=rx
 exact rule i t s _ _ ⟨.int (g i),H,I.tok _,⟨_,rfl⟩,q⟩
theorem zc4:UnR X (unaryOp .USub) (rU fun i=>.int (-i)):=unI fun _ _ _ _ _ q=>neg_int q
end
section
variable {X:Cx} {a b c:Expr} {ta tb tc:TE} {pos:Pos}
theorem z9o {pins:List (Addr×Obj)} {σ:St} {H:Hp} {s:Shared} {Q:VK} {k k':Bool} (I:Inv X pins σ H s) (q:Q (.bl k) H) (e:k=k'):EP X pins σ Q (.bool k') s:=by
 subst e
 exact ⟨.bl k,H,I,rfl,q⟩
theorem op_lt:OpR X (compareOp .Lt) (rI0 fun i j=>.bl (decide (i < j))):=opB0 fun _ _ _ _ _ _ _ q=>lt_int q
theorem op_le:OpR X (compareOp .LtE) (rI0 fun i j=>.bl (decide (i≤j))):=opB0 fun _ _ _ _ _ _ _ q=>le_int q
theorem op_gt:OpR X (compareOp .Gt) (rI0 fun i j=>.bl (decide (j < i))):=opB0 fun _ _ _ _ _ _ _ q=>gt_int q
theorem op_ge:OpR X (compareOp .GtE) (rI0 fun i j=>.bl (decide (j≤i))):=opB0 fun _ _ _ _ _ _ _ q=>ge_int q
theorem zaD:OpR X (compareOp .Lt) (fun x y H Q=>∃ i j,x = .str i∧y = .str j∧Q (.bl (decide (i.cps.toList < j.cps.toList))) H):=by
 intro pins s σ H x y v u Q I rx ry h
 obtain ⟨i,j,rfl,rfl,q⟩:=h
 obtain ⟨t,rfl⟩:=rx
 obtain ⟨t',rfl⟩:=ry
 exact lt_str (z9o I q rfl)
theorem zaE:OpR X (compareOp .In) (fun x y H Q=>∃ i j,x = .str i∧y = .str j∧Q (.bl (!(Builtin.Str.occurrences j i 0 j.length 1).isEmpty)) H):=by
 intro pins s σ H x y v u Q I rx ry h
 obtain ⟨i,j,rfl,rfl,q⟩:=h
 obtain ⟨t,rfl⟩:=rx
 obtain ⟨t',rfl⟩:=ry
 exact in_str (z9o I q rfl)
theorem z7Z:OpR X (compareOp .NotIn) (fun x y H Q=>∃ i j,x = .str i∧y = .str j∧Q (.bl (!(!(Builtin.Str.occurrences j i 0 j.length 1).isEmpty))) H):=by
 intro pins s σ H x y v u Q I rx ry h
 obtain ⟨i,j,rfl,rfl,q⟩:=h
 obtain ⟨t,rfl⟩:=rx
 obtain ⟨t',rfl⟩:=ry
 exact notIn_str (z9o I q rfl)
theorem OpR.or {f:Value→Value→Sem Value} {r r':R2} (h:OpR X f r) (h':OpR X f r'):OpR X f (fun x y H Q=>r x y H Q∨r' x y H Q):=by
 intro pins s σ H x y v u Q I rx ry q
 rcases q with q | q
 ·exact h pins s σ H x y v u Q I rx ry q
 ·exact h' pins s σ H x y v u Q I rx ry q
theorem z1a (b:Expr) {op:CmpOp} (h:op≠.In:=by decide) (h2:op≠.NotIn:=by decide):behindInMarks op b=false:=by
 have e1:(op == CmpOp.In)=false:=by cases op <;> first | rfl | exact absurd rfl h
 have e2:(op == CmpOp.NotIn)=false:=by cases op <;> first | rfl | exact absurd rfl h2
 cases b <;> simp [behindInMarks,e1,e2]
theorem zay {op:CmpOp} {r:R2} (ho:OpR X (compareOp op) r) (ha:PE X a ta) (hb:PE X b tb) (hm:behindInMarks op b=false):PE X (.Compare a [op] [b] pos) (tOp r ta tb):=by
 intro pins s σ H Q I h
 exact wpAny_Compare1 (binT ha hb I h fun v u s2 x y H2 I2 rx ry q=>ho pins s2 σ H2 x y v u Q I2 rx ry q) hm
def zdD (t:TE):TT:=fun σ H Q=>t σ H fun x H'=>∃ k,x = .bl k∧Q k H'
theorem zar {op:CmpOp} {r:R2} (ho:OpR X (compareOp op) r) (ha:PE X a ta) (hb:PE X b tb) (hm:behindInMarks op b=false):PT X (.Compare a [op] [b] pos) (zdD (tOp r ta tb)):=by
 intro pins s σ H Q I h
 refine wpAny_isTrue_Compare1 (thn (ha pins s σ H _ I h) fun v s1 ⟨x,H1,I1,r1,q1⟩=>thn (hb pins s1 σ H1 _ I1 q1) fun u s2 ⟨y,H2,I2,r2,q2⟩ =>
  thn (ho pins s2 σ H2 x y v u _ I2 r1 r2 q2) fun c s3 ⟨z,H3,I3,r3,k,e,q3⟩=>?_) hm
 subst e
 cases r3
 exact wpAny_truthy_bool ⟨H3,I3,q3⟩
def z9Y (r r':R2) (ta tb tc:TE):TE:=fun σ H Q=>ta σ H fun x H1=>tb σ H1 fun y H2=>r x y H2 fun z H3=>∃ k,z = .bl k ∧
 (if k=true then tc σ H3 fun w' H4=>r' y w' H4 Q else Q (.bl false) H3)
theorem zbG {op op':CmpOp} {r r':R2} (ho:OpR X (compareOp op) r) (ho':OpR X (compareOp op') r') (ha:PE X a ta) (hb:PE X b tb) (hc:PE X c tc)
  (hm:lastMarks [op,op'] [b,c]=false:=by with_unfolding_all rfl):PE X (.Compare a [op,op'] [b,c] pos) (z9Y r r' ta tb tc):=by
 intro pins s σ H Q I h
 refine Compare_chain (thn (ha pins s σ H _ I h) fun v s1 ⟨x,H1,I1,r1,q1⟩=>chain_link (thn (hb pins s1 σ H1 _ I1 q1) fun u s2 ⟨y,H2,I2,r2,q2⟩ =>
  thn (ho pins s2 σ H2 x y v u _ I2 r1 r2 q2) fun d s3 ⟨z,H3,I3,r3,k,e,q3⟩=>?_)) hm
 subst e
 cases r3
 refine wpAny_truthy_bool ?_
 cases k with
 | false=>exact ite_ff ⟨.bl false,H3,I3,rfl,q3⟩
 | true=>exact ite_tt (chain_last (thn (hc pins s3 σ H3 _ I3 q3) fun w' s4 ⟨z',H4,I4,r4,q4⟩=>ho' pins s4 σ H4 y z' u w' Q I4 r2 r4 q4))
theorem zbA {op op':CmpOp} {r r':R2} (ho:OpR X (compareOp op) r) (ho':OpR X (compareOp op') r') (ha:PE X a ta) (hb:PE X b tb) (hc:PE X c tc)
  (hm:lastMarks [op,op'] [b,c]=false:=by with_unfolding_all rfl):PT X (.Compare a [op,op'] [b,c] pos) (zdD (z9Y r r' ta tb tc)):=by
 intro pins s σ H Q I h
 refine isTrue_chain (thn (ha pins s σ H _ I h) fun v s1 ⟨x,H1,I1,r1,q1⟩=>test_link (thn (hb pins s1 σ H1 _ I1 q1) fun u s2 ⟨y,H2,I2,r2,q2⟩ =>
  thn (ho pins s2 σ H2 x y v u _ I2 r1 r2 q2) fun d s3 ⟨z,H3,I3,r3,k,e,q3⟩=>?_)) hm
 subst e
 cases r3
 refine wpAny_truthy_bool ?_
 cases k with
 | false =>
  obtain ⟨k',e',q'⟩:=q3
  cases e'
  exact ite_ff ⟨H3,I3,q'⟩
 | true =>
  refine ite_tt (test_last (thn (hc pins s3 σ H3 _ I3 q3) fun w' s4 ⟨z',H4,I4,r4,q4⟩=>thn (ho' pins s4 σ H4 y z' u w' _ I4 r2 r4 q4) fun d' s5 ⟨z2,H5,I5,r5,k2,e2,q5⟩=>?_))
  subst e2
  cases r5
  exact wpAny_truthy_bool ⟨H5,I5,q5⟩
theorem z6J:(sizeLine:Nat) < 2 ^ 63:=by rw [sizeLine_eq]; decide
theorem op_add_str:OpR X (binaryOp .Add) (fun x y H Q=>∃ i j,x = .str i∧y = .str j∧i.length + j.length≤sizeLine∧Q (.str (i ++ j)) H):=by
 intro pins s σ H x y v u Q I rx ry h
 obtain ⟨i,j,rfl,rfl,hz,q⟩:=h
 obtain ⟨t,rfl⟩:=rx
 obtain ⟨t',rfl⟩:=ry
 exact add_str (fun t' tk=>⟨.str (i ++ j),H,I.tok _,⟨_,rfl⟩,q⟩) hz
theorem z5k {x:V} {us:List Value} (r:Vals [x] us):∃ u,us=[u]∧RelV x u:=by
 cases r with
 | cons r1 r2=>cases r2; exact ⟨_,rfl,r1⟩
theorem zcp {x y:V} {us:List Value} (r:Vals [x,y] us):∃ u w',us=[u,w']∧RelV x u∧RelV y w':=by
 cases r with
 | cons r1 r2 =>
  cases r2 with
  | cons r3 r4=>cases r4; exact ⟨_,_,rfl,r1,r3⟩
theorem zbh (hc:X.calm=true):CallR X (.builtin "max") (fun xs H Q=>∃ i j,xs=[.int i,.int j]∧Q (.int (if j > i then j else i)) H):=by
 intro pins s σ H xs us Q I r h
 obtain ⟨i,j,rfl,q⟩:=h
 obtain ⟨u,w',rfl,⟨t,rfl⟩,⟨t',rfl⟩⟩:=zcp r
 refine max_two_ints (I.ok.hd hc) fun h' tk k=>⟨_,H,I.kept k,?_,q⟩
 by_cases hj:j > i
 ·rw [if_pos hj,if_pos hj]; exact ⟨_,rfl⟩
 ·rw [if_neg hj,if_neg hj]; exact ⟨_,rfl⟩
theorem zbf (hc:X.calm=true):CallR X (.builtin "min") (fun xs H Q=>∃ i j,xs=[.int i,.int j]∧Q (.int (if j < i then j else i)) H):=by
 intro pins s σ H xs us Q I r h
 obtain ⟨i,j,rfl,q⟩:=h
 obtain ⟨u,w',rfl,⟨t,rfl⟩,⟨t',rfl⟩⟩:=zcp r
 refine min_two_ints (I.ok.hd hc) fun h' tk k=>⟨_,H,I.kept k,?_,q⟩
 by_cases hj:j < i
 ·rw [if_pos hj,if_pos hj]; exact ⟨_,rfl⟩
 ·rw [if_neg hj,if_neg hj]; exact ⟨_,rfl⟩
theorem zbj:CallR X (.type "int") (fun xs H Q=>(∃ i,xs=[.int i]∧Q (.int i) H)∨∃ k,xs=[.bl k]∧Q (.int (if k then 1 else 0)) H):=by
 intro pins s σ H xs us Q I r h
 rcases h with ⟨i,rfl,q⟩ | ⟨k,rfl,q⟩
 ·obtain ⟨u,rfl,t,rfl⟩:=z5k r
  exact call_int_int ⟨.int i,H,I,⟨_,rfl⟩,q⟩
 ·obtain ⟨u,rfl,r1⟩:=z5k r
  cases r1
  exact call_int_bool ⟨.int (if k then 1 else 0),H,I.tok _,⟨_,rfl⟩,q⟩
end
open PySem PySem.Spec PyProof.Rows
structure ObjM (h:Heap) (x dx C:Addr) (mA:Str→Option Value):Prop where
 obj:h.get? x=some (PySem.W.instObj C dx)
 ns:h.Ns1 dx mA
 ne:dx≠x
theorem zaN {h:Heap} {dx:Addr} {mA:Str→Option Value} (n:h.Ns1 dx mA):∃ od,h.get? dx=some od∧∀ name,PySem.W.lookIn name od=some (mA name):=by
 obtain ⟨o,es,ep,ho,hd,hk,_,hm⟩:=n
 refine ⟨o,ho,fun name=>?_⟩
 have e:=hm name
 unfold nsFind findBy at e
 rw [← Array.find?_toList] at e
 unfold PySem.W.lookIn
 rw [hd]
 dsimp only
 split
 ·rename_i y q
  rw [q] at e
  exact congrArg some e
 ·rename_i q
  rw [q] at e
  have a:es.toList.any (·.refKey)=false:=by
   rw [List.any_eq_false]
   intro y hy
   obtain ⟨z,t,hkey⟩:=hk y (Array.mem_toList_iff.mp hy)
   simp [DictEntry.refKey,hkey]
  have a':¬ es.toList.any (·.refKey)=true:=by rw [a]; exact Bool.false_ne_true
  rw [if_neg a']
  exact congrArg some e
theorem ObjM.look {h:Heap} {x dx C:Addr} {mA:Str→Option Value} (I:ObjM h x dx C mA):∃ od,PySem.W.InstAt h x (PySem.W.instObj C dx) C (some od)∧∀ name,PySem.W.lookIn name od=some (mA name) :=
 let ⟨od,ho,hl⟩:=zaN I.ns
 ⟨od,⟨I.obj,rfl,rfl,ho⟩,hl⟩
section
variable {prog:Program} {w:World} {A:Around} {E:Value→Shared→Prop} {s:Shared} {K:PySem.W.Frag} {x dx C f:Addr} {mA:Str→Option Value} {name:Str} {v:Value}
end
theorem RelO.some_of {v:V} {o:Option Value} (r:RelO (some v) o):∃ u,o=some u∧RelV v u:=by
 cases o with
 | none=>exact (show False from r).elim
 | some u=>exact ⟨u,rfl,r⟩
section
variable {P:Program} {w:World} {H H':Hp} {h h':Heap} {a C dx:Addr} {fs fs':List (Str×V)}
theorem zdh (hok:HOk P w H h) (e:H a=some (.ins C dx fs)):∃ mA,ObjM h a dx C mA∧(∀ f,RelO (fs.lookup f) (mA f))∧PySem.Within mA (fs.map (·.1))∧fs.length≤1000∧H dx=some (.own a):=by
 obtain ⟨d,z,ne,ob,mA,n,r,q⟩:=(show ObjOk P w H h a (.ins C dx fs) from hok a _ e)
 exact ⟨mA,⟨ob,n,ne⟩,r,q,z,d⟩
end
structure Cls (K:PySem.W.Frag) (C:Addr):Prop where
 pg:PySem.W.plainGet K C Str.empty=true
 hd:PySem.W.hasDictIn K C=true
 po:PySem.W.plainOver K C=true
 sa:PySem.W.findIn K (.ref C) "__setattr__" = some (some (.builtin "object.__setattr__"))
theorem Cls.get {K:PySem.W.Frag} {C:Addr} (c:Cls K C) (f:Str):PySem.W.plainGet K C f=true:=c.pg
structure Con (K:PySem.W.Frag) (C:Addr) (f:Str) (v:V) (u:Value):Prop where
 at_:PySem.W.findIn K (.ref C) f=some (some u)
 rel:RelV v u
 get:PySem.W.specialIn K u "__get__" = some none
 cp:PySem.W.copiedNames.contains f=false
structure Meth (K:PySem.W.Frag) (C:Addr) (m:Str) (f:Addr):Prop where
 at_:PySem.W.findIn K (.ref C) m=some (some (.ref f))
 fn:PySem.W.isFn K (.ref f)=true
 kp:PySem.W.keepIn K (.ref f)=true
section
variable {X:Cx} {pins:List (Addr×Obj)} {σ:St} {H:Hp} {s:Shared} {a C dx:Addr} {fs:List (Str×V)} {f:Str} {v:V} {A:Around} {E:Value→Shared→Prop}
end
section
variable {X:Cx} {o e value:Expr} {f:Str} {pos pos' tpos:Pos} {ta tv:TE}
end
section
variable {X:Cx} {pins:List (Addr×Obj)} {σ:St} {H:Hp} {s:Shared} {A:Around} {E:Value→Shared→Prop} {Q:Value→Shared→Prop} {c:Value} {b:Bool}
inductive TyOf (K:PySem.W.Frag) (H:Hp):V→Value→Prop where
 | non:TyOf K H .non (.type "NoneType")
 | bl (x:Bool):TyOf K H (.bl x) (.type "bool")
 | int (i:Int):TyOf K H (.int i) (.type "int")
 | str (x:Str):TyOf K H (.str x) (.type "str")
 | flt (x:UInt64):TyOf K H (.flt x) (.type "float")
 | lst {a:Addr} {xs:List V} (e:H a=some (.lst xs)):TyOf K H (.ref a) (.type "list")
 | frz {a:Addr} {o:Obj} {xs:List V} (e:H a=some (.frz o (.lst xs))):TyOf K H (.ref a) (.type "list")
 | tup {a:Addr} {xs:List V} (e:H a=some (.tup xs)):TyOf K H (.ref a) (.type "tuple")
 | dK {a:Addr} {kvs:List (Key×V)} (e:H a=some (.dK kvs)):TyOf K H (.ref a) (.type "dict")
 | dT {a:Addr} {kvs:List (List Key×V)} (e:H a=some (.dT kvs)):TyOf K H (.ref a) (.type "dict")
 | ins {a C dx:Addr} {fs:List (Str×V)} (e:H a=some (.ins C dx fs)) (cl:Cls K C) (ha:PySem.W.findIn K (.ref C) "__class__" = some (some (.builtin "object.__class__")))
   (hn:PySem.W.specialIn K (.builtin "object.__class__") "__get__" = some (some (.builtin "getset_descriptor.__get__"))) (htk:PySem.W.takesIn K (.builtin "object.__class__")=some true)
   (hm:PySem.W.mroIn K C (.type "object")=some true):TyOf K H (.ref a) (.ref C)
theorem z2Q {x:V} {u t:Value} (I:Inv X pins σ H s) (rx:RelV x u) (ty:TyOf X.K H x t) (e:PySem.W.kitOne X.K t c=some b) (h:∀ tk,Q (.bool b) { s with toks:=tk }) :
  wpAny (model X.prog X.w) A (call (.builtin "isinstance") [u,c]) Q E s:=by
 cases ty with
 | non=>cases (show u=Value.none from rx); exact PySem.W.kia_one PySem.W.kitx_none I.kIn True.intro e (fun z=>nomatch z) h
 | bl y=>cases (show u=Value.bool y from rx); exact PySem.W.kia_one PySem.W.kitx_bool I.kIn True.intro e (fun z=>nomatch z) h
 | int i=>obtain ⟨t,q⟩:=(show ∃ t,u=Value.int i t from rx); cases q; exact PySem.W.kia_one PySem.W.kitx_int I.kIn True.intro e (fun z=>nomatch z) h
 | str y=>obtain ⟨t,q⟩:=(show ∃ t,u=Value.str y t from rx); cases q; exact PySem.W.kia_one PySem.W.kitx_str I.kIn True.intro e (fun z=>nomatch z) h
 | flt y=>obtain ⟨t,q⟩:=(show ∃ t,u=Value.float y t from rx); cases q; exact PySem.W.kia_one PySem.W.kitx_float I.kIn True.intro e (fun z=>nomatch z) h
 | @lst a xs ea =>
  cases (show u=Value.ref a from rx)
  obtain ⟨_,_,n,_,h1⟩:=(show ObjOk X.prog X.w H s.heap a (.lst xs) from I.hok a _ ea)
  exact PySem.W.kia_one PySem.W.kitx_list I.kIn ⟨_,h1,rfl⟩ e (fun z=>nomatch z) h
 | @frz a ob xs ea =>
  cases (show u=Value.ref a from rx)
  obtain ⟨_,_,_,n,_,h1⟩:=(show ObjOk X.prog X.w H s.heap a (.frz ob (.lst xs)) from I.hok a _ ea)
  exact PySem.W.kia_one PySem.W.kitx_list I.kIn ⟨_,h1,rfl⟩ e (fun z=>nomatch z) h
 | @tup a xs ea =>
  cases (show u=Value.ref a from rx)
  obtain ⟨_,_,_,p⟩:=(show ObjOk X.prog X.w H s.heap a (.tup xs) from I.hok a _ ea)
  obtain ⟨o,h1,h2,_⟩:=p.tup
  exact PySem.W.kia_one PySem.W.kitx_tuple I.kIn ⟨o,h1,h2⟩ e (fun z=>nomatch z) h
 | @dK a kvs ea =>
  cases (show u=Value.ref a from rx)
  obtain ⟨_,_,vs,_,p⟩:=(show ObjOk X.prog X.w H s.heap a (.dK kvs) from I.hok a _ ea)
  obtain ⟨o,es,ep,h1,h2,_⟩:=p
  exact PySem.W.kia_one PySem.W.kitx_dict I.kIn ⟨o,h1,h2.1⟩ e (fun z=>nomatch z) h
 | @dT a kvs ea =>
  cases (show u=Value.ref a from rx)
  obtain ⟨_,_,xs,_,o,es,ep,h1,h2,_⟩:=(show ObjOk X.prog X.w H s.heap a (.dT kvs) from I.hok a _ ea)
  exact PySem.W.kia_one PySem.W.kitx_dict I.kIn ⟨o,h1,h2.1⟩ e (fun z=>nomatch z) h
 | @ins a C dx fs ea cl ha hn htk hm =>
  cases (show u=Value.ref a from rx)
  obtain ⟨mA,O,_⟩:=zdh I.hok ea
  obtain ⟨od,J,_⟩:=O.look
  exact PySem.W.kia_one (PySem.W.kitx_own (cl.get _) cl.hd ha hn htk hm) I.kIn J e (fun z=>nomatch z) h
end
open PySem PySem.Spec PyProof.Rows
structure Room (k:Nat) (A:Around):Prop where
 hd:A.handled=none
 dp:A.depth + 3 * k + 5 < recursionLimit
 un:A.units + 16 * k + 200 < cLine
theorem Room.mono {j k:Nat} {A:Around} (r:Room k A) (h:j≤k):Room j A:=⟨r.hd,by have:=r.dp; omega,by have:=r.un; omega⟩
theorem Room.deeper {k:Nat} {A:Around} (r:Room (k + 1) A) (env:Env):Room k (A.deeper env) :=
 ⟨r.hd,by have:=r.dp; show A.depth + 1 + 3 * k + 5 < _; omega,by have:=r.un; show A.units + 3 + 16 * k + 200 < _; omega⟩
theorem Room.in1 {k:Nat} {A:Around} (r:Room (k + 1) A):Room k A.in1 :=
 ⟨r.hd,by have:=r.dp; show A.depth + 3 * k + 5 < _; omega,by have:=r.un; show A.units + 1 + 16 * k + 200 < _; omega⟩
theorem Room.depth {k:Nat} {A:Around} (r:Room k A):A.depth < recursionLimit:=by have:=r.dp; omega
theorem Room.units {k:Nat} {A:Around} (r:Room k A):A.units + 64 < cLine:=by have:=r.un; omega
def tNil:TA:=fun _ H Q=>Q [] H
def zdG (ta:TE) (tr:TA):TA:=fun σ H Q=>ta σ H fun x H1=>tr σ H1 fun xs H2=>Q (x :: xs) H2
section
variable {X:Cx} {e:Expr} {es:List Expr} {te:TE} {t:TA} {pos:Pos}
theorem z4f:PA X [] tNil:=fun _ _ _ _ H Q I h=>Calls.spliced_nil ⟨[],H,I,.nil,h⟩
theorem z2s (ha:PE X e te) (hr:PA X es t) (hs:starEach (e :: es) X.env=(false,eval e X.env) :: starEach es X.env:=by rfl):PA X (e :: es) (zdG te t):=by
 intro pos pins s σ H Q I h
 rw [hs]
 show wpAny _ _ (spliced ((false,eval e X.env) :: backTo pos (starEach es X.env))) _ _ s
 refine Calls.spliced_cons (thn (ha pins s σ H _ I h) fun u s1 ⟨x,H1,I1,r1,q1⟩=>?_)
 exact thn (hr pos pins s1 σ H1 _ I1 q1) fun us s2 ⟨xs,H2,I2,r2,q2⟩=>⟨x :: xs,H2,I2,.cons r1 r2,q2⟩
def tTup (t:TA):TE:=fun σ H Q=>t σ H fun xs H1=>xs.length≤sizeLine∧∀ p,H1 p=none→Q (.ref p) (upd H1 p (.tup xs))
def tLst (t:TA):TE:=fun σ H Q=>t σ H fun xs H1=>xs.length≤sizeLine∧∀ p,H1 p=none→Q (.ref p) (upd H1 p (.lst xs))
theorem zeh {x1} (h:PA X es t):PE X (.Tuple es x1 pos) (tTup t):=by
 intro pins s σ H Q I hq
 refine wpAny_Tuple_spliced (thn (h pos pins s σ H _ I hq) fun us s1 ⟨xs,H1,I1,r,z,q⟩=>⟨by rw [← r.length]; exact z,?_⟩)
 have hf:H1 s1.heap.objs.size=none:=I1.hok.fresh (Nat.le_refl _)
 refine ⟨.ref s1.heap.objs.size,upd H1 s1.heap.objs.size (.tup xs),I1.laid (t':=s1.toks) (fun b u e=>Heap.get?_push_of_some _ e) (Nat.le_refl _) ?_,rfl,q _ hf⟩
 exact ⟨z,us,r,⟨_,Heap.get?_push_size _ rfl⟩⟩
theorem zen (h:PA X es t):PE X (.List es pos) (tLst t):=by
 intro pins s σ H Q I hq
 refine wpAny_List_spliced (thn (h pos pins s σ H _ I hq) fun us s1 ⟨xs,H1,I1,r,z,q⟩=>⟨by rw [← r.length]; exact z,?_⟩)
 have hf:H1 s1.heap.objs.size=none:=I1.hok.fresh (Nat.le_refl _)
 refine ⟨.ref s1.heap.objs.size,upd H1 s1.heap.objs.size (.lst xs),I1.laid (t':=s1.toks) (fun b u e=>Heap.get?_push_of_some _ e) (Nat.le_refl _) ?_,rfl,q _ hf⟩
 exact ⟨z,us,0,r,Heap.get?_push_size _ rfl⟩
end
abbrev Sp:=List V→Hp→VK→XK→Prop
abbrev CXT:=List Env→Hp→Shared→XK→Value→Shared→Prop
structure Env0 (P:Program) (w:World) (K:PySem.W.Frag) (mg:Str→Option Value) (base:Heap) (A:Around) (outer:List Env) (s:Shared) (H:Hp):Prop where
 frames:A.frames=some outer
 mod:Mod K mg base
 bs:∀ b o,base.get? b=some o→s.heap.get? b=some o∧H b=none
 bsz:base.objs.size≤s.heap.objs.size
 funs:s.heap.FunFrames base outer
 frf:∀ b ∈ frs outer,H b=none
 hok:HOk P w H s.heap
 bare:AllBare s.gens
def CE (outer:List Env) (P:Program) (w:World) (H:Hp) (s:Shared) (Q:VK) (u:Value) (s':Shared):Prop :=
 ∃ v H',s'.os=s.os∧AllBare s'.gens∧Un (frs outer) [] H H' s.heap s'.heap∧HOk P w H' s'.heap∧RelV v u∧Q v H'
def CR (CX:CXT) (outer:List Env) (P:Program) (w:World) (H:Hp) (s:Shared) (Q:VK) (E:XK) (r:Result) (s':Shared):Prop :=
 match r with
 | .ok (.ret u)=>CE outer P w H s Q u s'
 | .ok _=>False
 | .error e=>CX outer H s E e s'
structure FnOk (P:Program) (w:World) (K:PySem.W.Frag) (mg:Str→Option Value) (base:Heap) (CX:CXT) (k:Nat) (f:Addr) (fd:FuncData) (ps:List Str) (sp:Sp):Prop where
 len:∀ vs H Q E,sp vs H Q E→vs.length=ps.length
 run:∀ (A:Around) (outer:List Env) (s:Shared) (H:Hp) (args:Args) (us:List Value) (vs:List V) (Q:VK) (E:XK),Room k A→Env0 P w K mg base A outer s H→BindsTo s fd args (ps.zip us)→Vals vs us→sp vs H Q E →
  codeAny (model P w) A (.call (.ref f) args) (CR CX outer P w H s Q E) s
theorem FnOk.mono {P:Program} {w:World} {K:PySem.W.Frag} {mg:Str→Option Value} {base:Heap} {CX:CXT} {j k:Nat} {f:Addr} {fd:FuncData} {ps:List Str} {sp:Sp} (F:FnOk P w K mg base CX j f fd ps sp) (h:j≤k) :
  FnOk P w K mg base CX k f fd ps sp:=⟨F.len,fun A outer s H args us vs Q E hr=>F.run A outer s H args us vs Q E (hr.mono h)⟩
theorem FnOk.imp {P:Program} {w:World} {K:PySem.W.Frag} {mg:Str→Option Value} {base:Heap} {CX:CXT} {k:Nat} {f:Addr} {fd:FuncData} {ps:List Str} {sp sp':Sp} (F:FnOk P w K mg base CX k f fd ps sp)
  (h:∀ vs H Q E,sp' vs H Q E→sp vs H Q E):FnOk P w K mg base CX k f fd ps sp' :=
 ⟨fun vs H Q E q=>F.len vs H Q E (h _ _ _ _ q),fun A outer s H args us vs Q E hr he hb hv hs=>F.run A outer s H args us vs Q E hr he hb hv (h _ _ _ _ hs)⟩
theorem Env0.in1 {P:Program} {w:World} {K:PySem.W.Frag} {mg:Str→Option Value} {base:Heap} {A:Around} {outer:List Env} {s:Shared} {H:Hp} (e:Env0 P w K mg base A outer s H) :
  Env0 P w K mg base A.in1 outer s H:=⟨e.frames,e.mod,e.bs,e.bsz,e.funs,e.frf,e.hok,e.bare⟩
section
variable {X:Cx} {pins:List (Addr×Obj)} {σ:St} {H:Hp} {s s':Shared}
theorem Inv.env0 (I:Inv X pins σ H s):Env0 X.prog X.w X.K X.mg X.base X.A X.stack s H :=
 ⟨I.ok.frames,I.ok.mod,I.bs,Nat.le_trans I.ok.bsz I.sz,I.stack,I.stkFree,I.hok,I.bare⟩
theorem Inv.after {Q:VK} {u:Value} (I:Inv X pins σ H s) (h:CE X.stack X.prog X.w H s Q u s'):EP X pins σ Q u s':=by
 obtain ⟨v,H',os,bare,un,hok,r,q⟩:=h
 obtain ⟨hh,g,d,t,os'⟩:=s'
 obtain rfl:os'=s.os:=os
 exact ⟨v,H',I.call (h':=hh) (g':=g) (d':=d) (t':=t) (ch:=[]) un hok bare (fun b z=>absurd z (by simp)),r,q⟩
end
def zdH (sp:Sp) (dvs:List V) (E:XK) (t:TA):TE:=fun σ H Q=>t σ H fun vs H1=>sp (vs ++ dvs) H1 Q E
def Binds (K:PySem.W.Frag) (fd:FuncData) (ps:List Str) (ds:List Value):Prop :=
 ∀ (s:Shared) (us:List Value),K.In s.heap→(us ++ ds).length=ps.length→BindsTo s fd ⟨us,[]⟩ (ps.zip (us ++ ds))
theorem Binds.all {K:PySem.W.Frag} {fd:FuncData} {ps:List Str} (h:∀ us:List Value,us.length=ps.length→bindArgs fd ⟨us,[]⟩=pure (ps.zip us)):Binds K fd ps []:=fun s us _ hl=>by
 rw [List.append_nil] at hl ⊢
 exact .of_eq (h us hl)
def zbo (CX:CXT) (X:Cx) (E:XK):Prop:=∀ (pins:List (Addr×Obj)) (σ:St) (H:Hp) (s:Shared) (e:Value) (s':Shared),Inv X pins σ H s→CX X.stack H s E e s'→X.xe e s'
section
variable {X:Cx} {CX:CXT} {k:Nat} {f C:Addr} {fd:FuncData} {ps:List Str} {sp:Sp} {dvs:List V} {ds:List Value} {E:XK} {x m:Str} {p pos apos:Pos} {e o:Expr} {es:List Expr} {ta:TE} {t:TA}
theorem zdK {pins:List (Addr×Obj)} {σ:St} {H:Hp} {s:Shared} {Q:VK} {us:List Value} {vs:List V} (F:FnOk X.prog X.w X.K X.mg X.base CX k f fd ps sp) (hr:Room k X.A) (hb:Binds X.K fd ps ds) (hd:Vals dvs ds) (hx:zbo CX X E)
  (I:Inv X pins σ H s) (r:Vals vs us) (h:sp (vs ++ dvs) H Q E):wpAny (model X.prog X.w) X.A (call (.ref f) us) (EP X pins σ Q) X.xe s:=by
 have r2:Vals (vs ++ dvs) (us ++ ds):=r.append hd
 have hl:(us ++ ds).length=ps.length:=by rw [← r2.length]; exact F.len _ _ _ _ h
 refine wpAny_call (codeAny_mono (F.run X.A X.stack s H ⟨us,[]⟩ (us ++ ds) (vs ++ dvs) Q E hr I.env0 (hb s us I.kIn hl) r2 h) fun r s' hq=>?_)
 cases r with
 | error e=>exact hx pins σ H s e s' I hq
 | ok fl =>
  cases fl with
  | ret u=>exact I.after hq
  | next=>exact False.elim hq
  | brk=>exact False.elim hq
  | cont=>exact False.elim hq
theorem zd3 (F:FnOk X.prog X.w X.K X.mg X.base CX k f fd ps sp) (hr:Room k X.A) (hg:Gl X x) (hm:X.mg x=some (.ref f)) (hk:PySem.W.keepIn X.K (.ref f)=true) (hb:Binds X.K fd ps ds) (hd:Vals dvs ds) (hx:zbo CX X E)
  (ha:PA X (e :: es) t) (hdb:(x == ("__debug__" : Str))=false:=by decide) (he:starEach (e :: es) X.env=(false,eval e X.env) :: starEach es X.env:=by rfl) (hpl:(backTo pos (starEach es X.env)).any (·.1)=false:=by rfl) :
  PE X (.Call (.Name x p) (e :: es) [] pos) (zdH sp dvs E t):=by
 intro pins s σ H Q I h
 refine wpAny_Call_Name_kw (zaO I hg hm ?_ hdb)
 refine PySem.W.callWith_K (h₀:=X.base) I.ok.mod.kin hk (thn (ha pos pins s σ H _ I h) fun us s1 ⟨vs,H1,I1,r,q⟩=>⟨I1.kIn,?_⟩) he hpl
 exact zdK F hr hb hd hx I1 r q
structure Mk (K:PySem.W.Frag) (C f:Addr):Prop where
 makes:PySem.W.makesIn K C=true
 init:PySem.W.findIn K (.ref C) "__init__" = some (some (.ref f))
 fn:PySem.W.isFn K (.ref f)=true
 kp:PySem.W.keepIn K (.ref C)=true
end
section
variable {X:Cx} {CX:CXT} {k:Nat} {f C:Addr} {fd:FuncData} {ps ks:List Str} {sp:Sp} {E:XK} {x m:Str} {p pos apos kpos:Pos} {e o:Expr} {es:List Expr} {kws:List Keyword} {te ta:TE} {t tk:TA} {nm:Option Str}
structure KBinds (K:PySem.W.Frag) (fd:FuncData) (ps ks:List Str) (g:List Value→List Value→List Value) (gV:List V→List V→List V):Prop where
 to:∀ (s:Shared) (us ws:List Value),K.In s.heap→(g us ws).length=ps.length→BindsTo s fd ⟨us,ks.zip ws⟩ (ps.zip (g us ws))
 rel:∀ {vs:List V} {us:List Value} {zs:List V} {ws:List Value},Vals vs us→Vals zs ws→Vals (gV vs zs) (g us ws)
variable {g:List Value→List Value→List Value} {gV:List V→List V→List V}
end
structure FnScope (N P:List Str) (sc:Scope):Prop where
 kind:sc.kind = .function
 co:sc.isCoroutine=false
 gen:sc.isGenerator=false
 nd:N.Nodup
 pre:N.take P.length=P
 par:∀ x ∈ P,sc.names.lookup x=some .local∨sc.names.lookup x=some .cell
 nofree:∀ y ∈ sc.names,y.2≠.free
theorem z8r {kindOf:Str→Option NameKind} {x:Str}:∀ {binds:List (Str×Value)} {m:Str→Option Value},(∀ v,(x,v) ∉ binds)→bindL kindOf binds m x=m x
 | [],_,_=>rfl
 | (n,v) :: r,m,h=>by
  unfold bindL
  rw [z8r fun w hw=>h w (List.mem_cons_of_mem _ hw)]
  split
  ·have:x≠n:=by rintro rfl; exact h v List.mem_cons_self
   simp [this]
  ·rfl
theorem z8t {kindOf:Str→Option NameKind} {x:Str}:∀ {binds:List (Str×Value)} {m:Str→Option Value},(∀ v,(x,v) ∉ binds)→bindC kindOf binds m x=m x
 | [],_,_=>rfl
 | (n,v) :: r,m,h=>by
  unfold bindC
  rw [z8t fun w hw=>h w (List.mem_cons_of_mem _ hw)]
  split
  ·rfl
  ·have:x≠n:=by rintro rfl; exact h v List.mem_cons_self
   simp [this]
theorem z8s {kindOf:Str→Option NameKind} {x:Str} {v:Value}:∀ {P:List Str} {vs:List Value} {i:Nat} {m:Str→Option Value},P.Nodup→P[i]? = some x→vs[i]? = some v→kindOf x=some .local →
  bindL kindOf (P.zip vs) m x=some v
 | [],_,_,_,_,h,_,_=>by simp at h
 | _ :: _,[],_,_,_,_,h,_=>by simp at h
 | p :: P,w :: vs,0,m,nd,h1,h2,hk=>by
  simp at h1 h2; subst h1; subst h2
  show bindL kindOf ((p,w) :: P.zip vs) m p=_
  unfold bindL
  rw [z8r fun v hv=>(List.nodup_cons.mp nd).1 (List.of_mem_zip hv).1,if_pos hk]
  simp
 | p :: P,w :: vs,i + 1,m,nd,h1,h2,hk=>by
  show bindL kindOf ((p,w) :: P.zip vs) m x=_
  unfold bindL
  exact z8s (i:=i) (List.nodup_cons.mp nd).2 (by simpa using h1) (by simpa using h2) hk
theorem z8u {kindOf:Str→Option NameKind} {x:Str} {v:Value}:∀ {P:List Str} {vs:List Value} {i:Nat} {m:Str→Option Value},P.Nodup→P[i]? = some x→vs[i]? = some v→kindOf x≠some .local →
  bindC kindOf (P.zip vs) m x=some v
 | [],_,_,_,_,h,_,_=>by simp at h
 | _ :: _,[],_,_,_,_,h,_=>by simp at h
 | p :: P,w :: vs,0,m,nd,h1,h2,hk=>by
  simp at h1 h2; subst h1; subst h2
  show bindC kindOf ((p,w) :: P.zip vs) m p=_
  unfold bindC
  rw [z8t fun v hv=>(List.nodup_cons.mp nd).1 (List.of_mem_zip hv).1,if_neg hk]
  simp
 | p :: P,w :: vs,i + 1,m,nd,h1,h2,hk=>by
  show bindC kindOf ((p,w) :: P.zip vs) m x=_
  unfold bindC
  exact z8u (i:=i) (List.nodup_cons.mp nd).2 (by simpa using h1) (by simpa using h2) hk
def z6i (N:List Str) (vs:List V):St:=vs.map some ++ List.replicate (N.length - vs.length) none
def cxOf (CX:CXT) (P:Program) (w:World) (K:PySem.W.Frag) (mg:Str→Option Value) (base:Heap) (N:List Str) (qual:Str) (scope:Scope) (f:Addr) (cd:Value) (A:Around) (outer:List Env) (s:Shared) (H:Hp) (E:XK):Cx where
 prog:=P
 w:=w
 K:=K
 mg:=mg
 base:=base
 A:=A.deeper (envOfC qual scope s.heap.objs.size f cd)
 N:=N
 s₀:=s
 H₀:=H
 env:=envOfC qual scope s.heap.objs.size f cd
 outer:=outer
 stack:=envOfC qual scope s.heap.objs.size f cd :: outer
 ex:=[]
 calm:=true
 fn:=fun _=>true
 pn:=[]
 xe:=fun e s'=>wpAny (model P w) (A.deeper (envOfC qual scope s.heap.objs.size f cd)) (leaving (envOfC qual scope s.heap.objs.size f cd) e) (fun _ s''=>CX outer H s E e s'') (fun e' s''=>CX outer H s E e' s'') s'
theorem z9v {sc:Scope} {n:Nat} {x:Str} (h:sc.names.lookup x=some .cell):∃ c,(cellsFrom n sc.names []).lookup x=some c:=by
 have q:=PySem.W.cellsFrom_some sc.names n [] (.inl h)
 exact Option.isSome_iff_exists.mp q
theorem zaV {CX:CXT} {P:Program} {w:World} {K:PySem.W.Frag} {mg:Str→Option Value} {base:Heap} {N ps:List Str} {qual:Str} {scope:Scope} {f:Addr} {cd:Value} {A:Around} {outer:List Env} {s s1:Shared} {H:Hp} {E:XK} {us:List Value} {vs:List V}
  (S:FnScope N ps scope) (hd:A.handled=none) (e0:Env0 P w K mg base A outer s H) (hl:vs.length=ps.length) (r:Vals vs us)
  (x:InCallC s s.heap.objs.size (bindL (envOfC qual scope s.heap.objs.size f cd).kindOf (ps.zip us) fun _=>none) (cellsFrom (s.heap.objs.size + 1) scope.names []) (bindC (envOfC qual scope s.heap.objs.size f cd).kindOf (ps.zip us) fun _=>none) s1) :
  Inv (cxOf CX P w K mg base N qual scope f cd A outer s H E) [] (z6i N vs) H s1:=by
 have hpl:ps.length≤N.length:=by have:=congrArg List.length S.pre; rw [List.length_take] at this; omega
 obtain ⟨h1,tk,rfl,hk⟩:=x.done
 have noA:∀ b:Addr,b ∉ (cxOf CX P w K mg base N qual scope f cd A outer s H E).ex:=fun b z=>absurd (show b ∈ ([]:List Addr) from z) (by simp)
 refine ⟨⟨e0.mod,S.kind,rfl,rfl,Nat.le_refl _,fun y z c h1 h2=>?_,fun y hy=>?_,fun y c _ h=>?_,fun _=>hd,Around.frames_deeper e0.frames,.inr ⟨rfl,rfl⟩,fun b z=>absurd z (noA b),e0.bs,e0.bsz,fun b _ _=>noA b,fun b z=>absurd z (noA b),e0.funs,e0.frf⟩,
  rfl,e0.bare,Un.kept hk,⟨_,x.toInCall.ns,fun i y v h1 h2 h3=>?_⟩,fun y c h=>⟨_,x.cell y c h⟩,e0.hok.fresh (Nat.le_refl _),fun y c h=>?_,fun p hp=>absurd (show p ∈ ([]:List (Addr×Obj)) from hp) (by simp),e0.hok.kept hk,?_⟩
 ·exact name_of_addr x.apart (PySem.mem_of_lookup h1) (PySem.mem_of_lookup h2)
 ·have hy:scope.names.lookup y=some .cell∨scope.names.lookup y=some .free:=hy
  rcases hy with hy | hy
  ·exact z9v hy
  ·exact absurd rfl (S.nofree _ (PySem.mem_of_lookup hy))
 ·exact Nat.le_of_lt (x.above y c (PySem.mem_of_lookup h))
 ·have hi:i < vs.length:=by
   unfold z6i at h2
   by_cases hi:i < vs.length
   ·exact hi
   ·rw [List.getElem?_append_right (by simpa using hi)] at h2
    rw [List.getElem?_replicate] at h2
    split at h2 <;> cases h2
  have ha:vs[i]? = some v:=by
   unfold z6i at h2
   rw [List.getElem?_append_left (by simpa using hi),List.getElem?_map] at h2
   cases e:vs[i]? with
   | none=>rw [e] at h2; cases h2
   | some a=>rw [e] at h2; cases h2; rfl
  obtain ⟨u,hu,rv⟩:=r.get ha
  have hp:ps[i]? = some y:=by
   rw [← S.pre,List.getElem?_take_of_lt (by omega)]; exact h1
  have ndP:ps.Nodup:=by rw [← S.pre]; exact S.nd.sublist (List.take_sublist _ _)
  refine ⟨u,rv,?_⟩
  rcases S.par y (List.mem_of_getElem? hp) with k | k
  ·exact .inl ⟨k,z8s ndP hp hu k⟩
  ·obtain ⟨c,e⟩:=z9v (n:=s.heap.objs.size + 1) k
   refine .inr ⟨.inl k,c,e,?_⟩
   have q:=x.cell y c e
   rw [z8u ndP hp hu (by show scope.names.lookup y≠_; rw [k]; decide)] at q
   exact q
 ·exact e0.hok.fresh (Nat.le_of_lt (x.above y c (PySem.mem_of_lookup h)))
 ·unfold z6i
  show _=N.length
  rw [List.length_append,List.length_map,List.length_replicate]
  omega
theorem fn_of {CX:CXT} {P:Program} {w:World} {K:PySem.W.Frag} {mg:Str→Option Value} {base:Heap} {k:Nat} {f:Addr} {name qual:Str} {params:Arguments} {body:List Stmt} {scope:Scope} {dV kV doc pm cdv ct oc:Value} {an od:Option Addr}
  {osl:Array (Option Value)} {N ps:List Str} {sp:Sp} (lk:K.lookup f=some ⟨oc,od,.func (PySem.W.fnOf name qual params body scope dV kV doc pm an cdv ct),osl⟩) (hcd:PySem.W.codeIn K cdv qual=true) (S:FnScope N ps scope)
  (len:∀ vs H Q E,sp vs H Q E→vs.length=ps.length)
  (hbody:∀ (A:Around) (outer:List Env) (s:Shared) (H:Hp) (vs:List V) (Q:VK) (E:XK),Room k (A.deeper (envOfC qual scope s.heap.objs.size f cdv))→sp vs H Q E →
   ∃ t,PSs (cxOf CX P w K mg base N qual scope f cdv A outer s H E) body t∧t { nx:=fun _ H'=>Q .non H',rt:=Q } (z6i N vs) H) :
  FnOk P w K mg base CX (k + 1) f (PySem.W.fnOf name qual params body scope dV kV doc pm an cdv ct) ps sp:=by
 refine ⟨len,fun A outer s H args us vs Q E hr e0 hb r hsp=>?_⟩
 have hl:=len _ _ _ _ hsp
 have KX:K.In s.heap:=e0.mod.kin.keeps fun b o e=>(e0.bs b o e).1
 have lim:s.heap.NoLimit:=e0.mod.nolimit.keeps fun b o e=>(e0.bs b o e).1
 have hkind:∀ y ∈ ps.zip us,scope.names.lookup y.1=some .local∨(scope.names.lookup y.1=some .cell∧((cellsFrom (s.heap.objs.size + 1) scope.names []).lookup y.1).isSome=true):=fun ⟨n,v⟩ hy=>by
  rcases S.par n (List.of_mem_zip hy).1 with q | q
  ·exact .inl q
  ·exact .inr ⟨q,PySem.W.cellsFrom_some _ _ _ (.inl q)⟩
 refine codeAny_call_function hr.depth (KX _ _ lk) rfl S.co S.gen rfl (PySem.W.codeRec_of KX hcd) (hb _ _ _ _ ?_)
 refine wpAny_newFunctionEnv_cells S.kind hkind fun env he s1 x=>?_
 subst he
 refine ⟨lim.keeps x.toInCall.keep,codeAny_func ?_⟩
 obtain ⟨t,ht,hq⟩:=hbody A outer s H vs Q E (hr.deeper _) hsp
 have I:Inv (cxOf CX P w K mg base N qual scope f cdv A outer s H E) [] (z6i N vs) H s1:=zaV S hr.hd e0 hl r x
 refine wpAny_mono (ht [] s1 (z6i N vs) H _ I hq) (fun fl s' hs=>?_) fun e s' hs=>hs
 have fin:∀ {σ':St} {H':Hp} {v:V} {u:Value},Inv (cxOf CX P w K mg base N qual scope f cdv A outer s H E) [] σ' H' s'→RelV v u→Q v H'→CE outer P w H s Q u s' :=
  fun {σ' H' v u} J rv q=>⟨v,H',J.os,J.bare,J.base,J.hok,rv,q⟩
 cases fl with
 | ret u =>
  obtain ⟨v,σ',H',J,rv,q⟩:=hs
  exact fin J rv q
 | next =>
  obtain ⟨σ',H',J,q⟩:=hs
  exact fin (v:=V.non) (u:=Value.none) J rfl q
 | brk =>
  obtain ⟨_,_,_,q⟩:=hs
  exact False.elim q
 | cont =>
  obtain ⟨_,_,_,q⟩:=hs
  exact False.elim q
open PySem PySem.Spec PyProof.Rows
section
variable {X:Cx} {x:Str} {p pos:Pos} {e:Expr} {es:List Expr} {t:TA} {id T:String} {r:List V→Hp→VK→Prop}
def tCB (r:List V→Hp→VK→Prop) (t:TA):TE:=fun σ H Q=>t σ H fun vs H1=>r vs H1 Q
theorem z5B (hc:CallR X (.builtin id) r) (hg:Gl X x) (hm:X.mg x=none) (hv:bootBuiltins x=some (.builtin id)) (ha:PA X (e :: es) t) (hn:x≠"__name__":=by decide) (hdb:(x == ("__debug__" : Str))=false:=by decide)
  (he:starEach (e :: es) X.env=(false,eval e X.env) :: starEach es X.env:=by rfl) (hpl:(backTo pos (starEach es X.env)).any (·.1)=false:=by rfl):PE X (.Call (.Name x p) (e :: es) [] pos) (tCB r t):=by
 intro pins s σ H Q I h
 refine wpAny_Call_Name_kw (z9d I hg hm hv ?_ hn hdb)
 exact PyProof.Rows.callWith_builtin1 (thn (ha pos pins s σ H _ I h) fun us s1 ⟨vs,H1,I1,r1,q1⟩=>hc pins s1 σ H1 vs us Q I1 r1 q1) he hpl
theorem zaz (hc:CallR X (.type T) r) (hg:Gl X x) (hm:X.mg x=none) (hv:bootBuiltins x=some (.type T)) (ha:PA X (e :: es) t) (hn:x≠"__name__":=by decide) (hdb:(x == ("__debug__" : Str))=false:=by decide)
  (he:starEach (e :: es) X.env=(false,eval e X.env) :: starEach es X.env:=by rfl) (hpl:(backTo pos (starEach es X.env)).any (·.1)=false:=by rfl):PE X (.Call (.Name x p) (e :: es) [] pos) (tCB r t):=by
 intro pins s σ H Q I h
 refine wpAny_Call_Name_kw (z9d I hg hm hv ?_ hn hdb)
 exact PyProof.Rows.callWith_type1 (thn (ha pos pins s σ H _ I h) fun us s1 ⟨vs,H1,I1,r1,q1⟩=>hc pins s1 σ H1 vs us Q I1 r1 q1) he hpl
end
end L2
namespace HT
open PySem PyProof.Rows
section
open PySem.SeqAt
open PySem.AutoSeq1 (wpAny_loadPart')
open PySem.MeetsSeq PySem.MeetsSeq2 PySem.MeetsSeq3
end
section
variable {prog:Program} {w:World} {A:Around} {E:Value→Shared→Prop} {s:Shared}
theorem cat_tup {t b:Addr} {vs ws:List Value} {Q:Value→Shared→Prop} (ht:IsTup s.heap t vs.toArray) (hb:IsTup s.heap b ws.toArray) (hv:vs≠[])
  (h1:ws=[]→Q (.ref t) s) (h2:ws≠[]→Q (.ref s.heap.objs.size) { s with heap:=s.heap.push { cls:=.type "tuple",data:=.seq (vs ++ ws).toArray } })
  (hsz:vs.length + ws.length≤sizeLine):wpAny (model prog w) A (binaryOp .Add (.ref t) (.ref b)) Q E s:=by
 obtain ⟨⟨cls,dd,data,sl⟩,ho,hc,n,hd⟩:=id ht
 obtain ⟨⟨cls2,dd2,data2,sl2⟩,ho2,hc2,n2,hd2⟩:=id hb
 simp only at hc hd hc2 hd2
 subst hc hd hc2 hd2
 have e:vs.toArray ++ ws.toArray=(vs ++ ws).toArray:=by simp
 by_cases hw:ws=[]
 ·exact concat_meets ⟨_,ho,rfl⟩ ⟨_,ho2,rfl⟩ noFill_tuple_add seq_tuple_add PySem.F.slot_tuple_add PySem.F.entry_tuple_add (PySem.F.args_tuple_add_2 _ _)
   (tuple_addW1 t b vs.toArray ws.toArray n n2 dd dd2 sl sl2 (by simpa using hv) (by simp [hw])) ⟨ho,ho2,h1 hw⟩
 ·refine concat_meets ⟨_,ho,rfl⟩ ⟨_,ho2,rfl⟩ noFill_tuple_add seq_tuple_add PySem.F.slot_tuple_add PySem.F.entry_tuple_add (PySem.F.args_tuple_add_2 _ _)
   (tuple_addW2 t b vs.toArray ws.toArray n n2 dd dd2 sl sl2 (by simpa using hv) (by simpa using hw) (by rw [List.size_toArray,List.size_toArray]; exact hsz)) ⟨ho,ho2,?_⟩
  rw [e]
  exact h2 hw
def sIx (n d:Nat):Option Int→Nat
 | none=>d
 | some v=>if v < 0 then (v + (n:Int)).toNat else min v.toNat n
theorem sIx_le (n d:Nat) (hd:d≤n) (o:Option Int):sIx n d o≤n:=by
 cases o with
 | none=>exact hd
 | some v =>
  show (if v < 0 then (v + (n:Int)).toNat else min v.toNat n)≤n
  by_cases hv:v < 0
  ·rw [if_pos hv]; omega
  ·rw [if_neg hv]; exact Nat.min_le_right _ _
theorem zba (v:Int) (n d:Nat):(if v < 0 then max (v + (n:Int)) 0 else min v (n:Int))=((sIx n d (some v):Nat):Int):=by
 show (if v < 0 then max (v + (n:Int)) 0 else min v (n:Int))=(((if v < 0 then (v + (n:Int)).toNat else min v.toNat n):Nat):Int)
 by_cases hv:v < 0
 ·simp only [if_pos hv]; omega
 ·simp only [if_neg hv]; omega
theorem z9U (lo hi:Option Int) (n:Nat):Builtin.Slice.sliceAdjust lo hi 1 (n:Int)=(((sIx n 0 lo:Nat):Int),((sIx n n hi:Nat):Int)):=by
 have h1:¬ ((1:Int) < 0):=by omega
 unfold Builtin.Slice.sliceAdjust
 simp only [h1,if_false]
 refine Prod.ext ?_ ?_
 ·cases lo with
  | none=>rfl
  | some v=>exact zba v n 0
 ·cases hi with
  | none=>rfl
  | some v=>exact zba v n n
theorem z9I (i j:Nat):Builtin.Slice.slicePlaces (i:Int) (j:Int) 1=j - i:=by
 unfold Builtin.Slice.slicePlaces
 have h1:(1:Int) > 0:=by omega
 simp only [h1,if_true,Int.ediv_one]
 split <;> omega
theorem z6C {v:Value} {o:Option Int} {Q:Option Int→Shared→Prop} (p:IsPart v o) (h:Q o s):wpAny (model prog w) A (Builtin.Slice.slicePartIndex v) Q E s:=by
 cases p with
 | none=>exact slicePart_none h
 | int i t=>exact slicePart_int h
theorem sliceApplied_gen {sl:Addr} {vl vu:Value} {lo hi:Option Int} {n:Nat} {Q:Int×Int×Nat→Shared→Prop} (hs:s.heap.IsSliceOf sl vl vu .none) (pl:IsPart vl lo) (pu:IsPart vu hi)
  (h:Q (((sIx n 0 lo:Nat):Int),1,sIx n n hi - sIx n 0 lo) s):wpAny (model prog w) A (Builtin.Slice.sliceApplied (.ref sl) (pure (n:Int))) Q E s:=by
 obtain ⟨os,hos,hcs,hds⟩:=id hs
 unfold Builtin.Slice.sliceApplied Builtin.Slice.sliceFields
 refine wpAny_bind (wpAny_bind (wpAny_field hos hds (x:=vl) rfl (wpAny_bind (wpAny_field hos hds (x:=vu) rfl (wpAny_bind (wpAny_field hos hds (x:=.none) rfl (wpAny_pure ?_)))))))
 refine wpAny_bind (slicePart_none ?_)
 show wpAny _ _ (if ((1:Int) == 0)=true then _ else _) _ _ s
 rw [if_neg (by decide)]
 refine wpAny_bind (z6C pl (wpAny_bind (z6C pu (wpAny_bind (wpAny_pure ?_)))))
 show wpAny _ _ (match Builtin.Slice.sliceAdjust lo hi 1 (n:Int) with | (lo,hi)=>pure (lo,(1:Int),Builtin.Slice.slicePlaces lo hi 1)) _ _ s
 rw [z9U lo hi n]
 show wpAny _ _ (pure (((sIx n 0 lo:Nat):Int),(1:Int),Builtin.Slice.slicePlaces ((sIx n 0 lo:Nat):Int) ((sIx n n hi:Nat):Int) 1)) _ _ s
 rw [z9I]
 exact wpAny_pure h
theorem zbE (xs:Array Value) (i k:Nat):((List.range k).filterMap fun (m:Nat)=>xs[((i:Int) + (m:Int) * 1).toNat]?).toArray=((xs.toList.drop i).take k).toArray:=by
 have e:(fun (m:Nat)=>xs[((i:Int) + (m:Int) * 1).toNat]?)=fun m=>xs[i + m]?:=by
  funext m
  have:((i:Int) + (m:Int) * 1).toNat=i + m:=by omega
  rw [this]
 rw [e]
 have:=pick_run xs i k
 rw [List.filterMap_map] at this
 have e2:((fun x=>xs[x]?) ∘ fun x=>i + x)=fun m=>xs[i + m]?:=rfl
 rw [e2] at this
 rw [this]
theorem getItem_tuple_cut {t sl:Addr} {items:Array Value} {vl vu:Value} {lo hi:Option Int} {Q:Value→Shared→Prop} (ht:IsTup s.heap t items) (hs:s.heap.IsSliceOf sl vl vu .none) (pl:IsPart vl lo) (pu:IsPart vu hi)
  (hw:¬ (sIx items.size 0 lo=0∧sIx items.size items.size hi=items.size))
  (h:Q (.ref s.heap.objs.size) { s with heap:=s.heap.push { cls:=.type "tuple",data:=.seq ((items.toList.drop (sIx items.size 0 lo)).take (sIx items.size items.size hi - sIx items.size 0 lo)).toArray } })
  (hsz:items.size≤sizeLine):wpAny (model prog w) A (getItem (.ref t) (.ref sl)) Q E s:=by
 have htake:sizeOk (.seq ((items.toList.drop (sIx items.size 0 lo)).take (sIx items.size items.size hi - sIx items.size 0 lo)).toArray):=by
  show ((items.toList.drop (sIx items.size 0 lo)).take (sIx items.size items.size hi - sIx items.size 0 lo)).toArray.size≤sizeLine
  rw [List.size_toArray,List.length_take,List.length_drop,Array.length_toList]
  omega
 have hj:sIx items.size items.size hi≤items.size:=sIx_le _ _ (Nat.le_refl _) hi
 obtain ⟨os,hos,hcs,hds⟩:=id hs
 have hTs:s.TypeIs (.ref sl) "slice":=⟨os,hos,hcs⟩
 unfold getItem
 try with_reducible refine wpAny_holding ?_
 first | refine wpAny_bind (wpAny_pure ?_) | skip
 refine wpAny_bind (wpAny_sequenceKey ht.typeIs (by decide) ?_)
 refine wpAny_bind (wpAny_callSpecial?_slot (name:=Str.ofString "__getitem__") ht.typeIs PyProof.Rows.slot_tuple_getitem
  (wpAny_call_entry PyProof.Rows.slot_tuple_getitem ht.typeIs entry_tuple_getitem ?_ (args_tuple_getitem _ _)))
 show wpAny _ _ (Builtin.Tuple.tupleItemsOf (.ref t) >>= _) _ _ s
 refine wpAny_bind (tupleItemsOf_ ht ?_)
 refine wpAny_bind (wpAny_typeOf hTs ?_)
 rw [if_pos (by decide)]
 refine wpAny_bind (sliceApplied_gen hs pl pu ?_)
 have hno:¬ ((((sIx items.size 0 lo:Nat):Int) == 0 && (1:Int) == 1 && (sIx items.size items.size hi - sIx items.size 0 lo) == items.size)=true):=by
  intro q
  rw [Bool.and_eq_true,Bool.and_eq_true] at q
  have q1:((sIx items.size 0 lo:Nat):Int)=0:=eq_of_beq q.1.1
  have q2:sIx items.size items.size hi - sIx items.size 0 lo=items.size:=eq_of_beq q.2
  exact hw ⟨by omega,by omega⟩
 show wpAny _ _ (if (((sIx items.size 0 lo:Nat):Int) == 0 && (1:Int) == 1 && (sIx items.size items.size hi - sIx items.size 0 lo) == items.size)=true then _ else _) _ _ s
 rw [if_neg hno,zbE]
 first
  | exact wpAny_bind (m:=Builtin.Tuple.tupleExact _) (wpAny_newObj_type (wpAny_pure ⟨_,rfl,wpAny_pure h⟩) htake)
  | exact wpAny_bind (m:=Builtin.Tuple.tupleExact _) (wpAny_newObj_type (wpAny_bind (wpAny_pure (wpAny_pure ⟨_,rfl,wpAny_pure h⟩))) htake)
  | exact wpAny_bind (wpAny_bind (m:=Builtin.Tuple.tupleExact _) (wpAny_newObj_type (wpAny_pure (wpAny_pure ⟨_,rfl,wpAny_pure h⟩)) htake))
  | exact wpAny_bind (wpAny_bind (m:=Builtin.Tuple.tupleExact _) (wpAny_newObj_type (wpAny_pure ⟨_,rfl,wpAny_pure h⟩) htake))
end
end HT
namespace L2
open PySem PySem.Spec PyProof.Rows
abbrev TO:=St→Hp→(Option Int→Hp→Prop)→Prop
def PO (X:Cx) (e:Option Expr) (t:TO):Prop :=
 ∀ (pins:List (Addr×Obj)) (s:Shared) (σ:St) (H:Hp) (Q:Option Int→Hp→Prop),Inv X pins σ H s→t σ H Q →
  wpAny (model X.prog X.w) X.A (evalPart e X.env) (fun u s'=>∃ o H',Inv X pins σ H' s'∧IsPart u o∧Q o H') X.xe s
def zcu:TO:=fun _ H Q=>Q none H
def tPart (t:TE):TO:=fun σ H Q=>t σ H fun x H1=>∃ i,x = .int i∧Q (some i) H1
section
variable {X:Cx} {e:Expr} {te:TE} {lo hi:Option Expr} {tl th:TO} {pos p2:Pos}
theorem zcZ:PO X none zcu:=by
 intro pins s σ H Q I h
 rw [evalPart_none]
 exact wpAny_pure ⟨none,H,I,.none,h⟩
theorem zcY (h:PE X e te):PO X (some e) (tPart te):=by
 intro pins s σ H Q I hw
 rw [evalPart_some]
 refine thn (h pins s σ H _ I hw) fun u s1 ⟨x,H1,I1,r1,q1⟩=>?_
 obtain ⟨i,rfl,q⟩:=q1
 obtain ⟨t,rfl⟩:=r1
 exact ⟨some i,H1,I1,.int i t,q⟩
def SlR (X:Cx) (r:V→Option Int→Option Int→Hp→VK→Prop):Prop :=
 ∀ (pins:List (Addr×Obj)) (s:Shared) (σ:St) (H:Hp) (x:V) (v vl vu:Value) (lo hi:Option Int) (sl:Addr) (Q:VK),Inv X pins σ H s→RelV x v→s.heap.IsSliceOf sl vl vu .none→IsPart vl lo→IsPart vu hi→r x lo hi H Q →
  ∃ T id,typeLookup (.type T) "__getitem__" = pure (some (.builtin id))∧s.TypeIs v T∧wpAny (model X.prog X.w) X.A (getItem v (.ref sl)) (EP X pins σ Q) X.xe s
theorem SlR.or {r r':V→Option Int→Option Int→Hp→VK→Prop} (h:SlR X r) (h':SlR X r'):SlR X (fun x lo hi H Q=>r x lo hi H Q∨r' x lo hi H Q):=by
 intro pins s σ H x v vl vu lo hi sl Q I rx hs pl pu q
 rcases q with q | q
 ·exact h pins s σ H x v vl vu lo hi sl Q I rx hs pl pu q
 ·exact h' pins s σ H x v vl vu lo hi sl Q I rx hs pl pu q
def tSl (r:V→Option Int→Option Int→Hp→VK→Prop) (te:TE) (tl th:TO):TE:=fun σ H Q=>te σ H fun x H1=>tl σ H1 fun l H2=>th σ H2 fun u H3=>r x l u H3 Q
theorem z99 {r:V→Option Int→Option Int→Hp→VK→Prop} (hr:SlR X r) (he:PE X e te) (hl:PO X lo tl) (hu:PO X hi th):PE X (.Subscript e (.Slice lo hi none p2) pos) (tSl r te tl th):=by
 intro pins s σ H Q I h
 refine Subscript_ (thn (he pins s σ H _ I h) fun v s1 ⟨x,H1,I1,r1,q1⟩=>?_)
 refine wpAny_Slice (thn (hl pins s1 σ H1 _ I1 q1) fun vl s2 ⟨l,H2,I2,pl,q2⟩=>thn (hu pins s2 σ H2 _ I2 q2) fun vu s3 ⟨u,H3,I3,pu,q3⟩=>?_)
 rw [evalPart_none]
 refine wpAny_pure ?_
 have I4:Inv X pins σ H3 { s3 with heap:=s3.heap.push { cls:=.type "slice",data:=.fields #[vl,vu,.none] } }:=I3.kept (t':=s3.toks) fun b ob q=>Heap.get?_push_of_some _ q
 obtain ⟨T,id,hT,ht,hg⟩:=hr pins { s3 with heap:=s3.heap.push { cls:=.type "slice",data:=.fields #[vl,vu,.none] } } σ H3 x v vl vu l u s3.heap.objs.size Q I4 r1 (Heap.IsSliceOf.new ..) pl pu q3
 show wpAny (model X.prog X.w) X.A (subscriptTail e (.Slice lo hi none p2) v (.ref s3.heap.objs.size)) (EP X pins σ Q) X.xe { s3 with heap:=s3.heap.push { cls:=.type "slice",data:=.fields #[vl,vu,.none] } }
 exact tail_any (ops:=[.ref s3.heap.objs.size,v]) ht hT hg (by with_unfolding_all rfl)
def cutV (xs:List V) (lo hi:Option Int):List V:=(xs.drop (HT.sIx xs.length 0 lo)).take (HT.sIx xs.length xs.length hi - HT.sIx xs.length 0 lo)
theorem z6b (xs:List V) (lo hi:Option Int):(cutV xs lo hi).length≤xs.length:=by
 unfold cutV
 rw [List.length_take,List.length_drop]
 omega
def rSlT (K:PySem.W.Frag):V→Option Int→Option Int→Hp→VK→Prop:=fun x lo hi H Q=>∃ a xs,x = .ref a∧SqT K H a xs ∧
 ¬ (HT.sIx xs.length 0 lo=0∧HT.sIx xs.length xs.length hi=xs.length)∧∀ p,H p=none→Q (.ref p) (upd H p (.tup (cutV xs lo hi)))
theorem sl_tup:SlR X (rSlT X.K):=by
 intro pins s σ H x v vl vu lo hi sl Q I rx hs pl pu h
 obtain ⟨a,xs,rfl,hx,hw,q⟩:=h
 cases rx
 obtain ⟨its,r,ht,hz⟩:=I.tuple hx
 have hlen:its.toArray.size=xs.length:=by rw [List.size_toArray]; exact r.length.symm
 refine ⟨"tuple",_,PyProof.Rows.slot_tuple_getitem.lookup,ht.typeIs,?_⟩
 refine HT.getItem_tuple_cut ht hs pl pu (by rw [hlen]; exact hw) ?_ (by rw [hlen]; exact hz)
 rw [hlen]
 refine ⟨.ref s.heap.objs.size,_,I.laid (t':=s.toks) (o:=.tup (cutV xs lo hi)) (fun b ob q=>Heap.get?_push_of_some _ q) (Nat.le_refl _) ?_,rfl,q _ (I.hok.fresh (Nat.le_refl _))⟩
 exact ⟨Nat.le_trans (z6b xs lo hi) hz,_,(r.drop (HT.sIx xs.length 0 lo)).take (HT.sIx xs.length xs.length hi - HT.sIx xs.length 0 lo),IsTupN.new _ _⟩
def ze0 (K:PySem.W.Frag):R2:=fun x y H Q=>∃ a b xs ys,x = .ref a∧y = .ref b∧SqT K H a xs∧SqT K H b ys∧xs≠[]∧xs.length + ys.length≤sizeLine ∧
 (ys=[]→Q (.ref a) H)∧(ys≠[]→∀ p,H p=none→Q (.ref p) (upd H p (.tup (xs ++ ys))))
theorem Vals.nil_iff {xs:List V} {us:List Value} (r:Vals xs us):us=[] ↔ xs=[]:=by
 cases r with
 | nil=>simp
 | cons _ _=>simp
theorem op_catT:OpR X (binaryOp .Add) (ze0 X.K):=by
 intro pins s σ H x y v u Q I rx ry h
 obtain ⟨a,b,xs,ys,rfl,rfl,ha,hb,hx,hz,q1,q2⟩:=h
 cases rx
 cases ry
 obtain ⟨its,r1,p1,_⟩:=I.tuple ha
 obtain ⟨its2,r2,p2,_⟩:=I.tuple hb
 refine HT.cat_tup p1 p2 (fun z=>hx (r1.nil_iff.mp z)) (fun z=>⟨.ref a,H,I,rfl,q1 (r2.nil_iff.mp z)⟩) (fun z=>?_) (by rw [← r1.length,← r2.length]; exact hz)
 refine ⟨.ref s.heap.objs.size,_,I.laid (t':=s.toks) (o:=.tup (xs ++ ys)) (fun b ob q=>Heap.get?_push_of_some _ q) (Nat.le_refl _) ?_,rfl,q2 (fun w=>z (r2.nil_iff.mpr w)) _ (I.hok.fresh (Nat.le_refl _))⟩
 exact ⟨by rw [List.length_append]; exact hz,_,r1.append r2,IsTupN.new _ _⟩
end
open PySem PySem.Spec PyProof.Rows
def ixN (n:Nat) (i:Int):Option Nat:=if 0≤i then (if i < n then some i.toNat else none) else if -(n:Int)≤i then some (i + n).toNat else none
def atI {α:Type} (xs:List α) (i:Int):Option α:=(ixN xs.length i).bind fun j=>xs[j]?
theorem zaS {n:Nat} {i:Int} {j:Nat} (h:ixN n i=some j):seqIndex? i n=some j∧j < n∧-(n:Int)≤i∧i < n:=by
 unfold ixN at h
 by_cases h0:0≤i
 ·rw [if_pos h0] at h
  by_cases h1:i < n
  ·rw [if_pos h1] at h
   have e:i.toNat=j:=Option.some.inj h
   exact ⟨by rw [seqIndex_of h0 h1,e],by omega,by omega,h1⟩
  ·rw [if_neg h1] at h; cases h
 ·rw [if_neg h0] at h
  by_cases h1 : -(n:Int)≤i
  ·rw [if_pos h1] at h
   have e:(i + n).toNat=j:=Option.some.inj h
   exact ⟨by rw [seqIndex_neg (by omega) h1,e],by omega,h1,by omega⟩
  ·rw [if_neg h1] at h; cases h
theorem z8U {α:Type} {xs:List α} {i:Int} {v:α} (h:atI xs i=some v):∃ j,seqIndex? i xs.length=some j∧xs[j]? = some v∧j < xs.length∧-(xs.length:Int)≤i∧i < xs.length:=by
 unfold atI at h
 cases e:ixN xs.length i with
 | none=>rw [e] at h; cases h
 | some j =>
  rw [e] at h
  obtain ⟨h1,h2,h3,h4⟩:=zaS e
  exact ⟨j,h1,h,h2,h3,h4⟩
def z8V (b:Expr):Prop:=∀ o i,subscripted b false o i=operate [o,i] (getItem o i)
def IxR (X:Cx) (r:R2):Prop :=
 ∀ (value slice:Expr) (pins:List (Addr×Obj)) (s:Shared) (σ:St) (H:Hp) (x y:V) (v u:Value) (Q:VK),Inv X pins σ H s→RelV x v→RelV y u→r x y H Q →
  subscripted slice false v u=operate [v,u] (getItem v u)→wpAny (model X.prog X.w) X.A (subscriptTail value slice v u) (EP X pins σ Q) X.xe s
def MtR (X:Cx) (id:String) (r:V→List V→Hp→VK→Prop):Prop :=
 ∀ (pins:List (Addr×Obj)) (s:Shared) (σ:St) (H:Hp) (x:V) (xs:List V) (v:Value) (us:List Value) (Q:VK),Inv X pins σ H s→RelV x v→Vals xs us→r x xs H Q →
  wpAny (model X.prog X.w) X.A (call (.builtin id) (v :: us)) (EP X pins σ Q) X.xe s
section
variable {X:Cx} {a b:Expr} {ta tb:TE} {pos:Pos}
theorem IxR.or {r r':R2} (h:IxR X r) (h':IxR X r'):IxR X (fun x y H Q=>r x y H Q∨r' x y H Q):=by
 intro value slice pins s σ H x y v u Q I rx ry q hs
 rcases q with q | q
 ·exact h value slice pins s σ H x y v u Q I rx ry q hs
 ·exact h' value slice pins s σ H x y v u Q I rx ry q hs
theorem MtR.or {id:String} {r r':V→List V→Hp→VK→Prop} (h:MtR X id r) (h':MtR X id r'):MtR X id (fun x xs H Q=>r x xs H Q∨r' x xs H Q):=by
 intro pins s σ H x xs v us Q I rx rs q
 rcases q with q | q
 ·exact h pins s σ H x xs v us Q I rx rs q
 ·exact h' pins s σ H x xs v us Q I rx rs q
theorem zeo {r:R2} (hr:IxR X r) (ha:PE X a ta) (hb:PE X b tb) (hs:z8V b):PE X (.Subscript a b pos) (tOp r ta tb):=by
 intro pins s σ H Q I h
 exact Subscript_ (binT ha hb I h fun v u s2 x y H2 I2 rx ry q=>hr a b pins s2 σ H2 x y v u Q I2 rx ry q (hs _ _))
def rIxL (K:PySem.W.Frag):R2:=fun x y H Q=>∃ p xs i v,x = .ref p∧y = .int i∧SqL K H p xs∧atI xs i=some v∧Q v H
def rIxT (K:PySem.W.Frag):R2:=fun x y H Q=>∃ p xs i v,x = .ref p∧y = .int i∧SqT K H p xs∧atI xs i=some v∧Q v H
def rIxS:R2:=fun x y H Q=>∃ z i c,x = .str z∧y = .int i∧z.length≤sizeLine∧atI z.cps.toList i=some c∧Q (.str ⟨#[c]⟩) H
theorem ix_list:IxR X (rIxL X.K):=by
 intro value slice pins s σ H x y v u Q I rx ry h hs
 obtain ⟨p,xs,i,z,rfl,rfl,hq,he,q⟩:=h
 cases rx
 obtain ⟨t,rfl⟩:=ry
 obtain ⟨its,r,pl,hz⟩:=I.list hq
 obtain ⟨j,h1,h2,h3,h4,h5⟩:=z8U he
 obtain ⟨w,ew,rw'⟩:=r.get h2
 have hl:=r.length
 have hn:=z6J
 have fin:EP X pins σ Q w s:=⟨z,H,I,rw',q⟩
 by_cases h0:0≤i
 ·have hj:i.toNat=j:=by
   rw [seqIndex_of h0 h5] at h1
   exact Option.some.inj h1
  exact item_listR pl.isList h0 (by omega) (by rw [hj]; simpa using ew) fin hs
 ·have hj:(i + (its.toArray.size:Int)).toNat=j:=by
   rw [seqIndex_neg (by omega) h4] at h1
   rw [List.size_toArray,← hl]
   exact Option.some.inj h1
  exact subscriptTail_builtinR (x:=w) pl.isList.typeIs slot_list_getitem.lookup
   (wpAny_getItem_list_neg (Q:=fun r s'=>r=w∧EP X pins σ Q r s') pl.isList (by omega) (by rw [List.size_toArray] <;> omega) (by omega) (by rw [hj]; simpa using ew) ⟨rfl,fin⟩) hs
theorem ix_tup:IxR X (rIxT X.K):=by
 intro value slice pins s σ H x y v u Q I rx ry h hs
 obtain ⟨p,xs,i,z,rfl,rfl,hq,he,q⟩:=h
 cases rx
 obtain ⟨t,rfl⟩:=ry
 obtain ⟨its,r,pl,hz⟩:=I.tuple hq
 obtain ⟨j,h1,h2,h3,h4,h5⟩:=z8U he
 obtain ⟨w,ew,rw'⟩:=r.get h2
 have hl:=r.length
 have hn:=z6J
 have fin:EP X pins σ Q w s:=⟨z,H,I,rw',q⟩
 exact subscriptTail_builtinR (x:=w) pl.typeIs slot_tuple_getitem.lookup
  (getItem_tuple (j:=j) (Q:=fun r s'=>r=w∧EP X pins σ Q r s') pl (by omega) (by omega) (by rw [List.size_toArray,← hl]; exact h1) (by simpa using ew) ⟨rfl,fin⟩) hs
theorem zeK:IxR X rIxS:=by
 intro value slice pins s σ H x y v u Q I rx ry h hs
 obtain ⟨z,i,c,rfl,rfl,hz,he,q⟩:=h
 obtain ⟨t,rfl⟩:=rx
 obtain ⟨t',rfl⟩:=ry
 obtain ⟨j,h1,h2,h3,h4,h5⟩:=z8U he
 have hl:z.cps.toList.length=z.length:=by simp [Str.length]
 rw [hl] at h1 h4 h5
 have hn:=z6J
 exact tail_any (typeIs_str s z t) slot_str_getitem.lookup (getItem_str (c:=c) (by
  have e1:decide (i < -(2 ^ 63:Int))=false:=decide_eq_false (by omega)
  have e2:decide (i ≥ 2 ^ 63)=false:=decide_eq_false (by omega)
  rw [e1,e2,Bool.or_false]) (by rw [h1]; simpa using h2) ⟨.str ⟨#[c]⟩,H,I.tok _,⟨_,rfl⟩,q⟩) hs
def rIx (K:PySem.W.Frag):R2:=fun x y H Q=>rIxL K x y H Q∨rIxT K x y H Q∨rIxS x y H Q
theorem z0k:IxR X (rIx X.K):=ix_list.or (ix_tup.or zeK)
theorem z9L (its:List Value) (n j:Nat) (u:Value):Obj.mapSeq (·.setIfInBounds j u) { cls:=.type "list",data:=.seq its.toArray n } = { cls:=.type "list",data:=.seq (its.set j u).toArray n }:=by
 simp [Obj.mapSeq]
theorem Inv.lst {pins:List (Addr×Obj)} {σ:St} {H:Hp} {s:Shared} {p:Addr} {xs:List V} (I:Inv X pins σ H s) (h:H p=some (.lst xs)) :
  ∃ (its:List Value) (n:Nat),Vals xs its∧s.heap.get? p=some { cls:=.type "list",data:=.seq its.toArray n }∧xs.length≤sizeLine:=by
 obtain ⟨z,its,n,r,e⟩:=I.hok p _ h
 exact ⟨its,n,r,e,z⟩
theorem Inv.lstUpd {pins:List (Addr×Obj)} {σ:St} {H:Hp} {s:Shared} {p:Addr} {xs ys:List V} {its its':List Value} {n n':Nat} {f:Obj→Obj} (I:Inv X pins σ H s) (h:H p=some (.lst xs))
  (ho:s.heap.get? p=some { cls:=.type "list",data:=.seq its.toArray n }) (hf:f { cls:=.type "list",data:=.seq its.toArray n } = { cls:=.type "list",data:=.seq its'.toArray n' }) (r:Vals ys its') (hz:ys.length≤sizeLine) (t:Nat) :
  Inv X pins σ (upd H p (.lst ys)) { s with heap:=s.heap.update p f,toks:=t }:=by
 have e:(s.heap.update p f).get? p=some { cls:=.type "list",data:=.seq its'.toArray n' }:=by
  rw [Heap.get?_update_self f ho (by rw [hf] <;> rfl),hf]
 refine I.write (x:=p) (e:=p) (by rw [h]; trivial) (.inl rfl) (fun b u hb q=>(Heap.get?_update_other _ _ (Ne.symm hb)).trans q) ⟨_,e⟩ ?_
 exact ⟨hz,its',n',r,e⟩
def rSetL:V→V→V→Hp→(Hp→Prop)→Prop:=fun o i v H Q=>∃ p xs k j,o = .ref p∧i = .int k∧H p=some (.lst xs)∧ixN xs.length k=some j∧Q (upd H p (.lst (xs.set j v)))
theorem zbt:PSet X rSetL:=by
 intro pins s σ H o i v ov iv u Q I ro ri rv h
 obtain ⟨p,xs,k,j,rfl,rfl,hp,hj,q⟩:=h
 cases ro
 obtain ⟨t,rfl⟩:=ri
 obtain ⟨its,n,r,ho,hz⟩:=I.lst hp
 obtain ⟨h1,h2,h3,h4⟩:=zaS hj
 have hl:=r.length
 have hn:=z6J
 have I':Inv X pins σ (upd H p (.lst (xs.set j v))) { s with heap:=s.heap.update p (Obj.mapSeq (·.setIfInBounds j u)) } :=
  I.lstUpd hp ho (z9L its n j u) (r.set rv j) (by rw [List.length_set]; exact hz) s.toks
 by_cases h0:0≤k
 ·have hk:k.toNat=j:=by
   rw [seqIndex_of h0 h4] at h1
   exact Option.some.inj h1
  exact PySem.W.ki_setAt ho h0 (by omega) (by rw [List.size_toArray,← hl]; exact h4) (by rw [hk]; exact ⟨_,I',q⟩)
 ·have hk:(k + (its.toArray.size:Int)).toNat=j:=by
   rw [seqIndex_neg (by omega) h3] at h1
   rw [List.size_toArray,← hl]
   exact Option.some.inj h1
  exact PySem.W.ki_setBack ho (by omega) (by rw [List.size_toArray,← hl]; exact h3) (by omega) (by rw [hk]; exact ⟨_,I',q⟩)
theorem z7J (lo hi:Option Int) (n:Nat):(sliceBounds lo hi none n).1=((HT.sIx n 0 lo:Nat):Int)∧(sliceBounds lo hi none n).2.1=((HT.sIx n n hi:Nat):Int)∧(sliceBounds lo hi none n).2.2=1:=by
 refine ⟨?_,?_,rfl⟩
 ·cases lo with
  | none=>simp [sliceBounds,HT.sIx]
  | some i =>
   simp only [sliceBounds,HT.sIx,Option.getD_none,show (1:Int) > 0 by decide,if_true]
   by_cases h:i < 0
   ·simp only [h,if_true] <;> omega
   ·simp only [h,if_false] <;> omega
 ·cases hi with
  | none=>simp [sliceBounds,HT.sIx]
  | some i =>
   simp only [sliceBounds,HT.sIx,Option.getD_none,show (1:Int) > 0 by decide,if_true]
   by_cases h:i < 0
   ·simp only [h,if_true] <;> omega
   ·simp only [h,if_false] <;> omega
theorem z6X (its:List Value) (lo hi:Option Int):slicePick its.toArray lo hi none=((its.drop (HT.sIx its.length 0 lo)).take (HT.sIx its.length its.length hi - HT.sIx its.length 0 lo)).toArray:=by
 obtain ⟨h1,h2,h3⟩:=z7J lo hi its.toArray.size
 unfold slicePick
 rw [h1,h2,h3]
 simp only [sliceRange_one,pick_run,List.size_toArray] <;> rfl
def rSlL (K:PySem.W.Frag):V→Option Int→Option Int→Hp→VK→Prop:=fun x lo hi H Q=>∃ a xs,x = .ref a∧SqL K H a xs∧∀ p,H p=none→Q (.ref p) (upd H p (.lst (cutV xs lo hi)))
theorem zcC:SlR X (rSlL X.K):=by
 intro pins s σ H x v vl vu lo hi sl Q I rx hs pl pu h
 obtain ⟨a,xs,rfl,hx,q⟩:=h
 cases rx
 obtain ⟨its,r,ht,hz⟩:=I.list hx
 have hlen:=r.length
 refine ⟨"list",_,slot_list_getitem.lookup,ht.isList.typeIs,?_⟩
 refine wpAny_getItem_list_slice ht.isList hs pl pu .none (by simp) ?_ (by rw [List.size_toArray] <;> omega)
 rw [z6X,← hlen]
 refine ⟨.ref s.heap.objs.size,_,I.laid (t':=s.toks) (o:=.lst (cutV xs lo hi)) (fun b ob q=>Heap.get?_push_of_some _ q) (Nat.le_refl _) ?_,rfl,q _ (I.hok.fresh (Nat.le_refl _))⟩
 exact ⟨Nat.le_trans (z6b xs lo hi) hz,_,0,(r.drop (HT.sIx xs.length 0 lo)).take (HT.sIx xs.length xs.length hi - HT.sIx xs.length 0 lo),Heap.get?_push_size _ rfl⟩
def z7t:V→Bool
 | .non=>true
 | .bl _=>true
 | .int _=>true
 | .str _=>true
 | _=>false
def eqV:V→V→Bool
 | .non,.non=>true
 | .bl a,.bl b=>a == b
 | .bl a,.int b=>(if a then 1 else 0) == b
 | .int a,.bl b=>a == (if b then 1 else 0)
 | .int a,.int b=>a == b
 | .str a,.str b=>a == b
 | _,_=>false
theorem zeY {A:Around} {s:Shared} {y x:V} {u v:Value} (ry:RelV y u) (rx:RelV x v) (fy:z7t y=true) (fx:z7t x=true):SeqAt.EqAt A s u v (eqV y x):=by
 cases y with
 | non =>
  cases ry
  cases x with
  | non=>cases rx; exact SeqAt.EqAt.same _
  | bl b=>cases rx; exact SeqAt.EqAt.none_bool b
  | int b=>obtain ⟨t,rfl⟩:=rx; exact SeqAt.EqAt.none_int b t
  | str b=>obtain ⟨t,rfl⟩:=rx; exact SeqAt.EqAt.none_str b t
  | _=>exact absurd (show false=true from fx) Bool.false_ne_true
 | bl a =>
  cases ry
  cases x with
  | non=>cases rx; exact SeqAt.EqAt.bool_none a
  | bl b=>cases rx; exact SeqAt.EqAt.bool_bool a b
  | int b=>obtain ⟨t,rfl⟩:=rx; exact SeqAt.EqAt.bool_int a b t
  | str b=>obtain ⟨t,rfl⟩:=rx; exact SeqAt.EqAt.bool_str a b t
  | _=>exact absurd (show false=true from fx) Bool.false_ne_true
 | int a =>
  obtain ⟨t',rfl⟩:=ry
  cases x with
  | non=>cases rx; exact SeqAt.EqAt.int_none a t'
  | bl b=>cases rx; exact SeqAt.EqAt.int_bool a t' b
  | int b=>obtain ⟨t,rfl⟩:=rx; exact SeqAt.EqAt.int_int a t' b t
  | str b=>obtain ⟨t,rfl⟩:=rx; exact SeqAt.EqAt.int_str a t' b t
  | _=>exact absurd (show false=true from fx) Bool.false_ne_true
 | str a =>
  obtain ⟨t',rfl⟩:=ry
  cases x with
  | non=>cases rx; exact SeqAt.EqAt.str_none a t'
  | bl b=>cases rx; exact SeqAt.EqAt.str_bool a t' b
  | int b=>obtain ⟨t,rfl⟩:=rx; exact SeqAt.EqAt.str_int a t' b t
  | str b=>obtain ⟨t,rfl⟩:=rx; exact SeqAt.EqAt.str_str a t' b t
  | _=>exact absurd (show false=true from fx) Bool.false_ne_true
 | _=>exact absurd (show false=true from fy) Bool.false_ne_true
def eqU (x:V) (u:Value):Bool:=match u with
 | .none=>eqV .non x
 | .bool b=>eqV (.bl b) x
 | .int i _=>eqV (.int i) x
 | .str z _=>eqV (.str z) x
 | _=>false
theorem zck {x y:V} {u:Value} (r:RelV y u) (f:z7t y=true):eqU x u=eqV y x:=by
 cases y with
 | non=>cases r; rfl
 | bl b=>cases r; rfl
 | int i=>obtain ⟨t,rfl⟩:=r; rfl
 | str z=>obtain ⟨t,rfl⟩:=r; rfl
 | _=>exact absurd (show false=true from f) Bool.false_ne_true
theorem z6f {x:V}:∀ {xs:List V} {us:List Value},Vals xs us→xs.all z7t=true→us.any (eqU x)=xs.any fun y=>eqV y x
 | _,_,.nil,_=>rfl
 | y :: xs,u :: us,.cons r t,f=>by
  rw [List.all_cons,Bool.and_eq_true] at f
  rw [List.any_cons,List.any_cons,zck r f.1,z6f t f.2]
theorem z4P {A:Around} {s:Shared} {x:V} {v:Value} (rx:RelV x v) (fx:z7t x=true):∀ {xs:List V} {us:List Value},Vals xs us→xs.all z7t=true→∀ u ∈ us,SeqAt.EqAt A s u v (eqU x u)
 | _,_,.nil,_=>fun u hu=>by cases hu
 | y :: xs,u :: us,.cons r t,f=>fun u' hu=>by
  rw [List.all_cons,Bool.and_eq_true] at f
  rcases List.mem_cons.mp hu with rfl | hu
  ·rw [zck r f.1]; exact zeY r rx f.1 fx
  ·exact z4P rx fx t f.2 u' hu
def inV (x:V) (xs:List V):Bool:=xs.any fun y=>eqV y x
def rIn (K:PySem.W.Frag) (neg:Bool):R2:=fun x y H Q=>∃ p xs,y = .ref p∧(SqL K H p xs∨SqT K H p xs)∧z7t x=true∧xs.all z7t=true∧Q (.bl (if neg then !inV x xs else inV x xs)) H
theorem op_in_seq:OpR X (compareOp .In) (rIn X.K false):=by
 intro pins s σ H x y v u Q I rx ry h
 obtain ⟨p,xs,rfl,hq,fx,fs,q⟩:=h
 cases ry
 rcases hq with hq | hq
 ·obtain ⟨its,r,pl,hz⟩:=I.list hq
  refine SeqAt.in_listAt (eqU x) pl.isList (fun w hw=>z4P rx fx r fs w (by simpa using hw)) ⟨.bl _,H,I,rfl,?_⟩
  rw [show its.toArray.any (eqU x)=its.any (eqU x) by simp,z6f r fs]
  exact q
 ·obtain ⟨its,r,pl,hz⟩:=I.tuple hq
  refine SeqAt.in_tupleAt (eqU x) pl (fun w hw=>z4P rx fx r fs w (by simpa using hw)) ⟨.bl _,H,I,rfl,?_⟩
  rw [show its.toArray.any (eqU x)=its.any (eqU x) by simp,z6f r fs]
  exact q
theorem op_notIn_seq:OpR X (compareOp .NotIn) (rIn X.K true):=by
 intro pins s σ H x y v u Q I rx ry h
 obtain ⟨p,xs,rfl,hq,fx,fs,q⟩:=h
 cases ry
 rcases hq with hq | hq
 ·obtain ⟨its,r,pl,hz⟩:=I.list hq
  refine SeqAt.notIn_listAt (eqU x) pl.isList (fun w hw=>z4P rx fx r fs w (by simpa using hw)) ⟨.bl _,H,I,rfl,?_⟩
  rw [show its.toArray.any (eqU x)=its.any (eqU x) by simp,z6f r fs]
  exact q
 ·obtain ⟨its,r,pl,hz⟩:=I.tuple hq
  refine SeqAt.notIn_tupleAt (eqU x) pl (fun w hw=>z4P rx fx r fs w (by simpa using hw)) ⟨.bl _,H,I,rfl,?_⟩
  rw [show its.toArray.any (eqU x)=its.any (eqU x) by simp,z6f r fs]
  exact q
theorem call_len_seq:CallR X (.builtin "len") (fun xs H Q=>∃ p ys,xs=[.ref p]∧(SqL X.K H p ys∨SqT X.K H p ys)∧Q (.int ys.length) H):=by
 intro pins s σ H xs us Q I r h
 obtain ⟨p,ys,rfl,hq,q⟩:=h
 obtain ⟨u,rfl,rx⟩:=z5k r
 cases rx
 have hn:=z6J
 rcases hq with hq | hq
 ·obtain ⟨its,r',pl,hz⟩:=I.list hq
  have hlen:=r'.length
  exact Calls.call_len_list pl.isList (by simp only [List.size_toArray] <;> omega) ⟨.int ys.length,H,I.tok _,⟨s.toks + 1,by rw [List.size_toArray,hlen]⟩,q⟩
 ·obtain ⟨its,r',pl,hz⟩:=I.tuple hq
  have hlen:=r'.length
  exact len_tuple pl (by simp only [List.size_toArray] <;> omega) ⟨.int ys.length,H,I.tok _,⟨s.toks + 1,by rw [List.size_toArray,hlen]⟩,q⟩
theorem z8p:CallR X (.builtin "len") (fun xs H Q=>∃ z,xs=[.str z]∧z.length≤sizeLine∧Q (.int z.length) H):=by
 intro pins s σ H xs us Q I r h
 obtain ⟨z,rfl,hz,q⟩:=h
 obtain ⟨u,rfl,t,rfl⟩:=z5k r
 have hn:=z6J
 exact len_str (by omega) ⟨.int z.length,H,I.tok _,⟨_,rfl⟩,q⟩
theorem CallR.or {f:Value} {r r':List V→Hp→VK→Prop} (h:CallR X f r) (h':CallR X f r'):CallR X f (fun xs H Q=>r xs H Q∨r' xs H Q):=by
 intro pins s σ H xs us Q I rs q
 rcases q with q | q
 ·exact h pins s σ H xs us Q I rs q
 ·exact h' pins s σ H xs us Q I rs q
theorem call_list_of:CallR X (.type "list") (fun xs H Q=>∃ p ys,xs=[.ref p]∧(SqL X.K H p ys∨SqT X.K H p ys)∧∀ l,H l=none→Q (.ref l) (upd H l (.lst ys))):=by
 intro pins s σ H xs us Q I r h
 obtain ⟨p,ys,rfl,hq,q⟩:=h
 obtain ⟨u,rfl,rx⟩:=z5k r
 cases rx
 have fin:∀ (its:List Value),Vals ys its→ys.length≤sizeLine→∀ (h':Heap) (c':Nat),(∀ b o',s.heap.get? b=some o'→h'.get? b=some o') →
   h'.get? s.heap.objs.size=some { cls:=.type "list",dict:=none,data:=.seq its.toArray c',slots:=#[] }→EP X pins σ Q (.ref s.heap.objs.size) { s with heap:=h' }:=fun its r' hz h' c' kp e =>
  ⟨.ref s.heap.objs.size,_,I.laid (t':=s.toks) kp (Nat.le_refl _) (show ObjOk X.prog X.w _ h' _ (.lst ys) from ⟨hz,its,c',r',e⟩),rfl,q _ (I.hok.fresh (Nat.le_refl _))⟩
 rcases hq with hq | hq
 ·obtain ⟨its,r',pl,hz⟩:=I.list hq
  have hlen:=r'.length
  obtain ⟨o,ho,hc,n,hd⟩:=pl.isList
  exact call_list_seq p (.inl rfl) ho hc hd (fun h' c' kp e=>fin its r' hz h' c' kp e) (by simp only [List.size_toArray] <;> omega)
 ·obtain ⟨its,r',pl,hz⟩:=I.tuple hq
  have hlen:=r'.length
  obtain ⟨o,ho,hc,n,hd⟩:=pl
  exact call_list_seq p (.inr rfl) ho hc hd (fun h' c' kp e=>fin its r' hz h' c' kp e) (by simp only [List.size_toArray] <;> omega)
theorem z7z:CallR X (.type "tuple") (fun xs H Q=>∃ p ys,xs=[.ref p]∧((SqL X.K H p ys∧∀ l,H l=none→Q (.ref l) (upd H l (.tup ys)))∨(SqT X.K H p ys∧Q (.ref p) H))):=by
 intro pins s σ H xs us Q I r h
 obtain ⟨p,ys,rfl,h⟩:=h
 obtain ⟨u,rfl,rx⟩:=z5k r
 cases rx
 rcases h with ⟨hq,q⟩ | ⟨hq,q⟩
 ·obtain ⟨its,r',pl,hz⟩:=I.list hq
  have hlen:=r'.length
  refine call_tuple_list pl.isList (fun h' kp=>?_) (by simp only [List.size_toArray] <;> omega)
  have I1:Inv X pins σ H { s with heap:=h' }:=I.kept (t':=s.toks) kp
  have I2:Inv X pins σ (upd H h'.objs.size (.tup ys)) { s with heap:=h'.push { cls:=.type "tuple",data:=.seq its.toArray } } :=
   I1.laid (t':=s.toks) (fun b o e=>Heap.get?_push_of_some _ e) (Nat.le_refl _) (show ObjOk X.prog X.w _ _ _ (.tup ys) from ⟨hz,its,r',IsTupN.new _ _⟩)
  exact ⟨.ref h'.objs.size,_,I2,rfl,q _ (I1.hok.fresh (Nat.le_refl _))⟩
 ·obtain ⟨its,r',pl,hz⟩:=I.tuple hq
  exact call_tuple_same pl ⟨.ref p,H,I,rfl,q⟩
def tyV (K:PySem.W.Frag) (T:String) (x:V) (H:Hp):Prop:=match x with
 | .str _=>T = "str"
 | .int _=>T = "int"
 | .ref p=>(T = "list"∧∃ xs,SqL K H p xs)∨(T = "tuple"∧∃ o,K.lookup p=some o∧o.cls = .type "tuple"∧o.dict=none) ∨
   (T = "dict"∧((∃ kvs,H p=some (.dK kvs))∨∃ kvs,H p=some (.dT kvs)))∨(T = "set"∧∃ S n,H p=some (.set S n))
 | _=>False
theorem zdz {pins:List (Addr×Obj)} {σ:St} {H:Hp} {s:Shared} {T:String} {x:V} {v:Value} (I:Inv X pins σ H s) (r:RelV x v) (ty:tyV X.K T x H) :
  s.TypeIs v T∧∀ a,v = .ref a→∃ ob,s.heap.get? a=some ob∧ob.dict=none:=by
 cases x with
 | str z =>
  obtain ⟨t,rfl⟩:=r
  cases (show T = "str" from ty)
  exact ⟨typeIs_str s z t,fun _ e=>nomatch e⟩
 | int i =>
  obtain ⟨t,rfl⟩:=r
  cases (show T = "int" from ty)
  exact ⟨typeIs_int s i t,fun _ e=>nomatch e⟩
 | ref p =>
  cases r
  rcases ty with ⟨rfl,xs,hq⟩ | ⟨rfl,o,hk,hc,hd⟩ | ⟨rfl,hk⟩ | ⟨rfl,S,n,hk⟩
  ·obtain ⟨its,_,pl,_⟩:=I.list hq
   refine ⟨pl.isList.typeIs,fun a e=>?_⟩
   cases e
   obtain ⟨o,n,e,c,hd,_⟩:=pl
   exact ⟨o,e,hd⟩
  ·refine ⟨⟨o,I.kIn p o hk,hc⟩,fun a e=>?_⟩
   cases e
   exact ⟨o,I.kIn _ o hk,hd⟩
  ·have z:∃ o,s.heap.get? p=some o∧o.ExactDict:=by
    rcases hk with ⟨kvs,hk⟩ | ⟨kvs,hk⟩
    ·obtain ⟨_,_,_,_,o,_,_,e,ex,_⟩:=I.hok p _ hk
     exact ⟨o,e,ex⟩
    ·obtain ⟨_,_,_,_,o,_,_,e,ex,_⟩:=I.hok p _ hk
     exact ⟨o,e,ex⟩
   obtain ⟨o,e,ex⟩:=z
   refine ⟨⟨o,e,ex.1⟩,fun a e2=>?_⟩
   cases e2
   exact ⟨o,e,ex.2.1⟩
  ·obtain ⟨o,_,_,_,e,ex,_⟩:=I.hok p _ hk
   refine ⟨⟨o,e,ex.1⟩,fun a e2=>?_⟩
   cases e2
   exact ⟨o,e,ex.2.1⟩
 | _=>exact False.elim ty
def tBM (K:PySem.W.Frag) (T:String) (r:V→List V→Hp→VK→Prop) (to:TE) (t:TA):TE:=fun σ H Q=>to σ H fun x H1=>tyV K T x H1∧t σ H1 fun xs H2=>r x xs H2 Q
variable {o e:Expr} {es:List Expr} {to:TE} {t:TA} {name:Str} {apos cpos:Pos} {T id:String} {r:V→List V→Hp→VK→Prop}
theorem zep (pa:PlainAttrs T) (slot:Slot T name id) (hty:typeOf (.builtin id)=pure (.type "method_descriptor")) (hm:MtR X id r) (ho:PE X o to) (ha:PA X (e :: es) t)
  (hbase:attributeBase o name X.env (eval o X.env)=eval o X.env:=by rfl)
  (hfew:((backTo cpos (starEach (e :: es) X.env)).all (fun x=>!x.1) && (backToKw cpos (keywordEach [] X.env)).all (fun x=>x.1.isSome)
   && decide ((e :: es).length + ([]:List Keyword).length + (if ([]:List Keyword).isEmpty then 0 else 1) < 30))=true:=by rfl)
  (hline:(apos.endLine == cpos.line)=true:=by rfl) (hs:starEach (e :: es) X.env=(false,eval e X.env) :: starEach es X.env:=by rfl) (hplain:(backTo cpos (starEach es X.env)).any (·.1)=false:=by rfl) :
  PE X (.Call (.Attribute o name apos) (e :: es) [] cpos) (tBM X.K T r to t):=by
 intro pins s σ H Q I h
 refine wpAny_Call_method_late hbase hfew hline rfl (thn (ho pins s σ H _ I h) fun v s1 ⟨x,H1,I1,r1,ty,q1⟩=>?_)
 obtain ⟨h1,h2⟩:=zdz I1 r1 ty
 refine ⟨T,id,pa,slot,hty,h1,h2,?_⟩
 have hA:=ha cpos pins s1 σ H1 _ I1 q1
 rw [hs] at hA ⊢
 refine Calls.callWith_builtin (by show (false || (backTo cpos (starEach es X.env)).any (·.1))=false; rw [hplain] <;> rfl) (Calls.evalArgs_plain ?_)
 exact thn hA fun us s2 ⟨vs,H2,I2,r2,q2⟩=>hm pins s2 σ H2 x vs v us Q I2 r1 r2 q2
/- xs.append(e), list.index on a module's tuple .. are MtR facts of 06m -/
end
open PySem PySem.Spec PyProof.Rows
def MtM (X:Cx) (id:String) (r:V→List V→Hp→VK→Prop):Prop :=
 ∀ (pins:List (Addr×Obj)) (s:Shared) (σ:St) (H:Hp) (x:V) (xs:List V) (v:Value) (us:List Value) (Q:VK),Inv X pins σ H s→RelV x v→Vals xs us→r x xs H Q →
  wpAny (model X.prog X.w) X.A (call (.builtin id) (v :: us)) (EP X pins σ Q) X.xe s
theorem Vals.one:∀ {x:V} {us:List Value},Vals [x] us→∃ u,us=[u]∧RelV x u
 | _,_,.cons r .nil=>⟨_,rfl,r⟩
theorem Vals.two:∀ {x y:V} {us:List Value},Vals [x,y] us→∃ u v,us=[u,v]∧RelV x u∧RelV y v
 | _,_,_,.cons r (.cons q .nil)=>⟨_,_,rfl,r,q⟩
theorem Vals.zero:∀ {us:List Value},Vals [] us→us=[]
 | _,.nil=>rfl
theorem Vals.reverse {xs:List V} {us:List Value} (h:Vals xs us):Vals xs.reverse us.reverse:=by
 induction h with
 | nil=>exact .nil
 | cons r t ih=>rw [List.reverse_cons,List.reverse_cons]; exact Vals.append ih (.cons r .nil)
theorem Vals.rep {xs:List V} {us:List Value} (h:Vals xs us):∀ k:Nat,Vals (List.replicate k xs).flatten (List.replicate k us).flatten
 | 0=>.nil
 | k + 1=>by
  rw [List.replicate_succ,List.replicate_succ,List.flatten_cons,List.flatten_cons]
  exact Vals.append h (Vals.rep h k)
theorem z8i (its:List Value):∀ (k:Nat) (acc:List Value),
  List.foldl (fun x1 x2=>x1 ++ x2) acc.toArray (List.replicate k its.toArray)=(acc ++ (List.replicate k its).flatten).toArray
 | 0,acc=>by simp
 | k + 1,acc=>by
  have e:acc.toArray ++ its.toArray=(acc ++ its).toArray:=by simp
  have e2:(acc ++ its) ++ (List.replicate k its).flatten=acc ++ (List.replicate (k + 1) its).flatten:=by
   rw [List.replicate_succ,List.flatten_cons,List.append_assoc]
  rw [← e2,← z8i its k (acc ++ its),← e,List.replicate_succ,List.foldl_cons]
section
variable {X:Cx} {pins:List (Addr×Obj)} {σ:St} {H:Hp} {s:Shared} {l b:Addr} {xs ys zs:List V}
theorem Inv.lset {its its':List Value} {n:Nat} {f:Array Value→Array Value} {t':Nat} (I:Inv X pins σ H s) (hH:H l=some (.lst xs))
  (e:s.heap.get? l=some { cls:=.type "list",data:=.seq its.toArray n }) (hf:f its.toArray=its'.toArray) (hv:Vals ys its') (hz:ys.length≤sizeLine) :
  Inv X pins σ (upd H l (.lst ys)) { s with heap:=s.heap.update l (Obj.mapSeq f),toks:=t' }:=by
 have q:=PySem.IsL.update e f
 rw [hf] at q
 refine I.write (x:=l) (e:=l) (by rw [hH]; exact trivial) (.inl rfl) (fun b' u hb hu=>(Heap.get?_update_other s.heap (Obj.mapSeq f) (Ne.symm hb)).trans hu) ⟨_,q⟩ ?_
 exact ⟨hz,its',_,hv,q⟩
theorem Inv.lnew {its:List Value} {t':Nat} (I:Inv X pins σ H s) (hv:Vals ys its) (hz:ys.length≤sizeLine) :
  Inv X pins σ (upd H s.heap.objs.size (.lst ys)) { s with heap:=s.heap.push { cls:=.type "list",data:=.seq its.toArray },toks:=t' } :=
 I.laid (fun _ _ q=>Heap.get?_push_of_some _ q) (Nat.le_refl _) ⟨hz,its,0,hv,Heap.get?_push_size _ rfl⟩
theorem Inv.fresh (I:Inv X pins σ H s):H s.heap.objs.size=none:=I.hok.fresh (Nat.le_refl _)
theorem Inv.lstM (I:Inv X pins σ H s) (hH:H l=some (.lst xs)):xs.length≤sizeLine∧∃ (its:List Value) (n:Nat),Vals xs its∧xs.length=its.length∧s.heap.get? l=some { cls:=.type "list",data:=.seq its.toArray n }:=by
 obtain ⟨z,its,n,r,e⟩:=I.hok l _ hH
 exact ⟨z,its,n,r,r.length,e⟩
end
section
variable {X:Cx}
def zao:V→List V→Hp→VK→Prop:=fun x vs H Q=>∃ l xs y,x = .ref l∧vs=[y]∧H l=some (.lst xs)∧xs.length < sizeLine∧Q .non (upd H l (.lst (xs ++ [y])))
theorem z8a:MtM X "list.append" zao:=by
 intro pins s σ H x vs v us Q I rx rv h
 obtain ⟨l,xs,y,rfl,rfl,hH,hz,q⟩:=h
 cases rx
 obtain ⟨u,rfl,ru⟩:=rv.one
 obtain ⟨z,its,n,r,hl,e⟩:=I.lstM hH
 refine call_meets F.slot_list_append ⟨_,e,rfl⟩ F.entry_list_append (F.args_list_append_2 _ _) (PySem.list_append l its.toArray n u (by rw [List.size_toArray]; omega)) ⟨e,?_⟩
 refine ⟨.non,_,I.lset (its':=its ++ [u]) hH e (by simp) (r.append (.cons ru .nil)) ?_,rfl,q⟩
 rw [List.length_append,List.length_singleton]
 omega
theorem z8Q {α:Type} (xs:List α) (k:Nat):(List.replicate k xs).flatten.length=k * xs.length:=by
 induction k with
 | zero=>simp
 | succ k ih=>rw [List.replicate_succ,List.flatten_cons,List.length_append,ih,Nat.succ_mul,Nat.add_comm]
end
section
variable {prog:Program} {w:World} {A:Around} {E:Value→Shared→Prop} {s:Shared}
set_option maxRecDepth 100000 in
end
section
variable {X:Cx}
end
open PySem PySem.Spec PyProof.Rows
section
variable {κ:Type} [DecidableEq κ]
def valV (kvs:List (κ×V)) (k:κ):Option V:=(kvs.find? fun kv=>decide (kv.1=k)).map (·.2)
def putK (kvs:List (κ×V)) (k:κ) (v:V):List (κ×V) :=
 if (kvs.any fun kv=>decide (kv.1=k))=true then kvs.map (fun kv=>if kv.1=k then (kv.1,v) else kv) else kvs ++ [(k,v)]
def zeZ (kvs:List (κ×V)) (k:κ):List (κ×V):=kvs.filter fun kv=>decide (kv.1≠k)
theorem z5x {p:κ×V} {r:List (κ×V)} {k:κ} (e:p.1=k):valV (p :: r) k=some p.2:=by simp [valV,List.find?_cons,e]
theorem z5y {p:κ×V} {r:List (κ×V)} {k:κ} (e:¬ p.1=k):valV (p :: r) k=valV r k:=by simp [valV,List.find?_cons,e]
theorem z8Y (k:κ):∀ kvs:List (κ×V),(kvs.any fun kv=>decide (kv.1=k))=(valV kvs k).isSome
 | []=>rfl
 | p :: r=>by
  rw [List.any_cons]
  by_cases e:p.1=k
  ·simp only [z5x e,decide_eq_true e,Bool.true_or,Option.isSome_some]
  ·rw [z5y e,decide_eq_false e,Bool.false_or]; exact z8Y k r
theorem z64 (kvs:List (κ×V)) (k:κ) (v:V):(putK kvs k v).length≤kvs.length + 1:=by
 unfold putK
 split
 ·rw [List.length_map]; omega
 ·rw [List.length_append,List.length_cons,List.length_nil]; omega
theorem RelO.isSome_eq {o:Option V} {u:Option Value} (r:RelO o u):o.isSome=u.isSome:=by
 cases o with
 | none=>cases u with
  | none=>rfl
  | some _=>exact (show False from r).elim
 | some _=>cases u with
  | none=>exact (show False from r).elim
  | some _=>rfl
theorem RelO.getD {o:Option V} {u:Option Value} {d:V} {d':Value} (r:RelO o u) (rd:RelV d d'):RelV (o.getD d) (u.getD d'):=by
 cases o with
 | none=>cases u with
  | none=>exact rd
  | some _=>exact (show False from r).elim
 | some _=>cases u with
  | none=>exact (show False from r).elim
  | some _=>exact r
theorem KV.val {kvs:List (κ×V)} {vs:List (κ×Value)} (r:KV kvs vs) (k:κ):RelO (valV kvs k) (valueAt vs k):=by
 unfold KV at r
 induction r with
 | nil=>exact True.intro
 | @cons p q ps qs h t ih =>
  obtain ⟨h1,h2⟩:=h
  by_cases e:p.1=k
  ·have e':q.1=k:=h1.symm.trans e
   have b:valueAt (q :: qs) k=some q.2:=by simp [valueAt,List.find?_cons,e']
   rw [z5x e,b]; exact h2
  ·have e':¬ q.1=k:=fun z=>e (h1.trans z)
   have b:valueAt (q :: qs) k=valueAt qs k:=by simp [valueAt,List.find?_cons,e']
   rw [z5y e,b]; exact ih
theorem KV.any {kvs:List (κ×V)} {vs:List (κ×Value)} (r:KV kvs vs) (k:κ):(kvs.any fun kv=>decide (kv.1=k))=vs.any fun kv=>decide (kv.1=k):=by
 unfold KV at r
 induction r with
 | nil=>rfl
 | cons h t ih=>rw [List.any_cons,List.any_cons,ih,h.1]
theorem KV.repl {kvs:List (κ×V)} {vs:List (κ×Value)} (r:KV kvs vs) (k:κ) {y:V} {u:Value} (ry:RelV y u) :
  KV (kvs.map fun kv=>if kv.1=k then (kv.1,y) else kv) (vs.map fun kv=>if kv.1=k then (kv.1,u) else kv):=by
 unfold KV at r ⊢
 induction r with
 | nil=>exact .nil
 | @cons p q ps qs h t ih =>
  rw [List.map_cons,List.map_cons]
  refine .cons ?_ ih
  obtain ⟨h1,h2⟩:=h
  by_cases e:p.1=k
  ·rw [if_pos e,if_pos (h1.symm.trans e)]; exact ⟨h1,ry⟩
  ·rw [if_neg e,if_neg (fun z=>e (h1.trans z))]; exact ⟨h1,h2⟩
theorem KV.put {kvs:List (κ×V)} {vs:List (κ×Value)} (r:KV kvs vs) (k:κ) {y:V} {u:Value} (ry:RelV y u):KV (putK kvs k y) (stored vs k u):=by
 unfold putK stored
 rw [r.any k]
 by_cases e:(vs.any fun kv=>decide (kv.1=k))=true
 ·rw [if_pos e,if_pos e]; exact r.repl k ry
 ·rw [if_neg e,if_neg e]; exact Paired.snoc r ⟨rfl,ry⟩
theorem KV.drop {kvs:List (κ×V)} {vs:List (κ×Value)} (r:KV kvs vs) (k:κ):KV (zeZ kvs k) (without vs k):=by
 unfold KV at r ⊢
 unfold zeZ without
 induction r with
 | nil=>exact .nil
 | @cons p q ps qs h t ih =>
  obtain ⟨h1,h2⟩:=h
  rw [List.filter_cons,List.filter_cons]
  by_cases e:p.1=k
  ·have a:¬ decide (p.1≠k)=true:=by simp [e]
   have b:¬ decide (q.1≠k)=true:=by simp [h1.symm.trans e]
   rw [if_neg a,if_neg b]; exact ih
  ·have e':¬ q.1=k:=fun z=>e (h1.trans z)
   have a:decide (p.1≠k)=true:=by simp [e]
   have b:decide (q.1≠k)=true:=by simp [e']
   rw [if_pos a,if_pos b]; exact .cons ⟨h1,h2⟩ ih
theorem KV.keys {kvs:List (κ×V)} {vs:List (κ×Value)} (r:KV kvs vs):kvs.map (·.1)=vs.map (·.1):=by
 unfold KV at r
 induction r with
 | nil=>rfl
 | cons h t ih=>rw [List.map_cons,List.map_cons,ih,h.1]
theorem KV.length {kvs:List (κ×V)} {vs:List (κ×Value)} (r:KV kvs vs):kvs.length=vs.length:=Paired.length r
end
theorem zaR {P:Program} {w:World} {k:Key} {u:Value} (r:RelV (kV k) u):(z2V P w).is k u=true:=by
 cases k with
 | inl i=>obtain ⟨t,e⟩:=(show ∃ t,u=Value.int i t from r); subst e; exact z8O P w i t
 | inr x=>obtain ⟨t,e⟩:=(show ∃ t,u=Value.str x t from r); subst e; exact z8N P w x t
theorem z8d {P:Program} {w:World}:∀ {ks:List Key} {us:List Value},Vals (ks.map kV) us→ItemsAre (z2V P w) ks us
 | [],_,r=>by rw [List.map_nil] at r; cases r; exact .nil
 | k :: ks,_,r=>by
  rw [List.map_cons] at r
  cases r with
  | cons h t=>exact .cons (zaR h) (z8d t)
abbrev KT (H:Hp):List (List Key×V)→List (List Key×Addr×Value)→Prop:=Paired fun p q=>p.1=q.1∧H q.2.1=some (.tup (p.1.map kV))∧RelV p.2 q.2.2
theorem KT.val {H:Hp} {kvs:List (List Key×V)} {xs:List (List Key×Addr×Value)} (r:KT H kvs xs) (k:List Key):RelO (valV kvs k) ((atKey xs k).map (·.2)):=by
 induction r with
 | nil=>exact True.intro
 | @cons p q ps qs h t ih =>
  obtain ⟨h1,_,h2⟩:=h
  by_cases e:p.1=k
  ·have e':q.1=k:=h1.symm.trans e
   have b:atKey (q :: qs) k=some q.2:=by simp [atKey,List.find?_cons,e']
   rw [z5x e,b]; exact h2
  ·have e':¬ q.1=k:=fun z=>e (h1.trans z)
   have b:atKey (q :: qs) k=atKey qs k:=by simp [atKey,List.find?_cons,e']
   rw [z5y e,b]; exact ih
theorem KT.repl {H:Hp} {kvs:List (List Key×V)} {xs:List (List Key×Addr×Value)} (r:KT H kvs xs) (k:List Key) {y:V} {u:Value} (ry:RelV y u) :
  KT H (kvs.map fun kv=>if kv.1=k then (kv.1,y) else kv) (xs.map (putAt k u)):=by
 induction r with
 | nil=>exact .nil
 | @cons p q ps qs h t ih =>
  rw [List.map_cons,List.map_cons]
  refine .cons ?_ ih
  obtain ⟨h1,h2,h3⟩:=h
  unfold putAt
  by_cases e:p.1=k
  ·rw [if_pos e,if_pos (h1.symm.trans e)]; exact ⟨h1,h2,ry⟩
  ·rw [if_neg e,if_neg (fun z=>e (h1.trans z))]; exact ⟨h1,h2,h3⟩
theorem KT.put {H:Hp} {kvs:List (List Key×V)} {xs:List (List Key×Addr×Value)} (r:KT H kvs xs) (k:List Key) {b:Addr} {y:V} {u:Value} (hb:H b=some (.tup (k.map kV))) (ry:RelV y u) :
  KT H (putK kvs k y) (storedH xs k b u):=by
 have e:(kvs.any fun kv=>decide (kv.1=k))=(atKey xs k).isSome:=by
  rw [z8Y,(r.val k).isSome_eq,Option.isSome_map]
 unfold putK storedH
 rw [e]
 by_cases q:(atKey xs k).isSome=true
 ·rw [if_pos q,if_pos q]; exact r.repl k ry
 ·rw [if_neg q,if_neg q]; exact Paired.snoc r ⟨rfl,hb,ry⟩
theorem KT.keeps {H H':Hp} {kvs:List (List Key×V)} {xs:List (List Key×Addr×Value)} (r:KT H kvs xs) (ht:∀ b ys,H b=some (.tup ys)→H' b=some (.tup ys)):KT H' kvs xs :=
 Paired.mapP r fun _ _ z=>⟨z.1,ht _ _ z.2.1,z.2.2⟩
section
variable {P:Program} {w:World} {H:Hp} {h:Heap} {a:Addr}
theorem zdM {u:HO} (ok:HOk P w H h) (e:Rd H a u):ObjOk P w H h a u:=e.ok ok
theorem zb2 {kvs:List (Key×V)} (ok:HOk P w H h) (e:Rd H a (.dK kvs)):kvs.length≤sizeLine∧(a == sysModules)=false∧∃ vs,KV kvs vs∧h.DictOf (z2V P w) a vs :=
 show ObjOk P w H h a (.dK kvs) from zdM ok e
theorem zf0 {kvs:List (Key×V)} (ok:HOk P w H h) (e:H a=some (.dK kvs)):kvs.length≤sizeLine∧(a == sysModules)=false∧∃ vs,KV kvs vs∧h.DictOf (z2V P w) a vs:=zb2 ok (.inl e)
theorem z9g {ks:List Key} (ok:HOk P w H h) (e:H a=some (.tup (ks.map kV))):(tupleKind (z2V P w)).is h ks a:=by
 obtain ⟨_,its,r,p⟩:=(show ObjOk P w H h a (.tup (ks.map kV)) from ok a _ e)
 obtain ⟨o,h1,h2,n,h3⟩:=p.tup
 exact ⟨o,its.toArray,n,h1,h2,h3,by simpa using z8d r⟩
theorem zdo {kvs:List (List Key×V)} (ok:HOk P w H h) (e:Rd H a (.dT kvs)):kvs.length≤sizeLine∧(a == sysModules)=false ∧
  ∃ xs,KT H kvs xs∧h.DictOfH (tupleKind (z2V P w)) a xs:=by
 obtain ⟨z,y,xs,r,o,es,ep,h1,h2,h3,h4,h5⟩:=(show ObjOk P w H h a (.dT kvs) from zdM ok e)
 refine ⟨z,y,xs,r,o,es,ep,h1,h2,h3,h4,fun x hx=>?_,h5⟩
 have all:∀ {l:List (List Key×V)} {m:List (List Key×Addr×Value)},KT H l m→∀ x ∈ m,(tupleKind (z2V P w)).is h x.1 x.2.1:=by
  intro l m q
  induction q with
  | nil=>intro x hx; exact nomatch hx
  | @cons p q ps qs hq t ih =>
   intro x hx
   rcases List.mem_cons.mp hx with e | hx
   ·subst e
    exact z9g ok (by rw [← hq.1]; exact hq.2.1)
   ·exact ih x hx
 exact all r x hx
end
def DGet (H:Hp) (a:Addr) (y:V) (r:Option V):Prop :=
 (∃ kvs k,Rd H a (.dK kvs)∧y=kV k∧r=valV kvs k)∨∃ kvs k b,Rd H a (.dT kvs)∧y = .ref b∧H b=some (.tup (k.map kV))∧r=valV kvs k
def DPut (H:Hp) (a:Addr) (y v:V) (H':Hp):Prop :=
 (∃ kvs k,H a=some (.dK kvs)∧y=kV k∧kvs.length < sizeLine∧H'=upd H a (.dK (putK kvs k v))) ∨
 ∃ kvs k b,H a=some (.dT kvs)∧y = .ref b∧H b=some (.tup (k.map kV))∧kvs.length < sizeLine∧H'=upd H a (.dT (putK kvs k v))
theorem DGet.k {H:Hp} {a:Addr} {kvs:List (Key×V)} {k:Key} (e:H a=some (.dK kvs)):DGet H a (kV k) (valV kvs k):=.inl ⟨kvs,k,.inl e,rfl,rfl⟩
theorem DGet.t {H:Hp} {a b:Addr} {kvs:List (List Key×V)} {k:List Key} (e:H a=some (.dT kvs)) (eb:H b=some (.tup (k.map kV))):DGet H a (.ref b) (valV kvs k):=.inr ⟨kvs,k,b,.inl e,rfl,eb,rfl⟩
theorem DPut.k {H:Hp} {a:Addr} {kvs:List (Key×V)} {k:Key} {v:V} (e:H a=some (.dK kvs)) (hl:kvs.length < sizeLine):DPut H a (kV k) v (upd H a (.dK (putK kvs k v))):=.inl ⟨kvs,k,e,rfl,hl,rfl⟩
theorem DPut.t {H:Hp} {a b:Addr} {kvs:List (List Key×V)} {k:List Key} {v:V} (e:H a=some (.dT kvs)) (eb:H b=some (.tup (k.map kV))) (hl:kvs.length < sizeLine) :
  DPut H a (.ref b) v (upd H a (.dT (putK kvs k v))):=.inr ⟨kvs,k,b,e,rfl,eb,hl,rfl⟩
section
variable {X:Cx} {pins:List (Addr×Obj)} {σ:St} {H:Hp} {s:Shared} {a:Addr} {y v:V} {u r:Value} {o:Option V} {A:Around} {E:Value→Shared→Prop}
theorem Inv.big (I:Inv X pins σ H s):sysModules < s.heap.objs.size:=by
 have h:mainGlobals < s.heap.objs.size:=(I.mod.glob.keeps I.bk).lt
 exact Nat.lt_trans (by decide) h
theorem zb5 {Q:Value→Shared→Prop} (hu:A.units + 1 < cLine) (I:Inv X pins σ H s) (g:DGet H a y (some v)) (ry:RelV y u) (h:∀ w' s',Inv X pins σ H s'→RelV v w'→Q w' s') :
  wpAny (model X.prog X.w) A (getItem (.ref a) u) Q E s:=by
 rcases g with ⟨kvs,k,e,ey,l⟩ | ⟨kvs,k,b,e,ey,eb,l⟩
 ·subst ey
  obtain ⟨z,hd,vs,rel,dd⟩:=zb2 I.hok e
  obtain ⟨w',hw,rw'⟩:=RelO.some_of (v:=v) (o:=valueAt vs k) (by rw [l]; exact rel.val k)
  exact wpAny_getItem_of (zaR ry) dd.mapOf hw (h w' _ (I.tok _) rw')
 ·subst ey
  cases (show u=Value.ref b from ry)
  obtain ⟨z,hd,xs,rel,dd⟩:=zdo I.hok e
  obtain ⟨w',hw,rw'⟩:=RelO.some_of (v:=v) (o:=(atKey xs k).map (·.2)) (by rw [l]; exact rel.val k)
  obtain ⟨p,hp,hp2⟩:=Option.map_eq_some_iff.mp hw
  refine wpAny_getItem_heap (tupleKind_room_in1 hu) (z9g I.hok eb) dd hp ?_
  rw [hp2]
  exact h w' _ (I.tok _) rw'
theorem d_in {Q:Value→Shared→Prop} (hu:A.units + 1 < cLine) (I:Inv X pins σ H s) (g:DGet H a y o) (ry:RelV y u) (h:∀ s',Inv X pins σ H s'→Q (.bool o.isSome) s') :
  wpAny (model X.prog X.w) A (compareOp .In u (.ref a)) Q E s:=by
 rcases g with ⟨kvs,k,e,ey,l⟩ | ⟨kvs,k,b,e,ey,eb,l⟩
 ·subst ey
  obtain ⟨z,hd,vs,rel,dd⟩:=zb2 I.hok e
  refine wpAny_in_of (zaR ry) hd dd.mapOf ?_
  rw [← (rel.val k).isSome_eq,← l]
  exact h _ (I.tok _)
 ·subst ey
  cases (show u=Value.ref b from ry)
  obtain ⟨z,hd,xs,rel,dd⟩:=zdo I.hok e
  refine wpAny_in_heap (tupleKind_room_in1 hu) (z9g I.hok eb) hd dd ?_
  have q:=(rel.val k).isSome_eq
  rw [Option.isSome_map] at q
  rw [← q,← l]
  exact h _ (I.tok _)
theorem zdr {Q:Value→Shared→Prop} (hu:A.units + 1 < cLine) (I:Inv X pins σ H s) (g:DGet H a y o) (ry:RelV y u) (h:∀ s',Inv X pins σ H s'→Q (.bool (!o.isSome)) s') :
  wpAny (model X.prog X.w) A (compareOp .NotIn u (.ref a)) Q E s:=by
 rcases g with ⟨kvs,k,e,ey,l⟩ | ⟨kvs,k,b,e,ey,eb,l⟩
 ·subst ey
  obtain ⟨z,hd,vs,rel,dd⟩:=zb2 I.hok e
  refine wpAny_notIn_of (zaR ry) hd dd.mapOf ?_
  rw [← (rel.val k).isSome_eq,← l]
  exact h _ (I.tok _)
 ·subst ey
  cases (show u=Value.ref b from ry)
  obtain ⟨z,hd,xs,rel,dd⟩:=zdo I.hok e
  refine wpAny_notIn_heap (tupleKind_room_in1 hu) (z9g I.hok eb) hd dd ?_
  have q:=(rel.val k).isSome_eq
  rw [Option.isSome_map] at q
  rw [← q,← l]
  exact h _ (I.tok _)
theorem zdq {h':Heap} {t':Nat} {ob:HO} (I:Inv X pins σ H s) (mu:Mut (H a)) (hs:Heap.SameBut a s.heap h') (he:∃ q,h'.get? a=some q) (new:ObjOk X.prog X.w (upd H a ob) h' a ob) :
  Inv X pins σ (upd H a ob) { s with heap:=h',toks:=t' } :=
 I.write (x:=a) (e:=a) mu (.inl rfl) (fun b q hb z=>(hs.2 b hb).trans z) he new
theorem zf1 {P:Program} {w:World} {H':Hp} {h':Heap} {kvs:List (Key×V)} {vs:List (Key×Value)} (z:kvs.length≤sizeLine) (hd:(a == sysModules)=false) (rel:KV kvs vs) (dd:h'.DictOf (z2V P w) a vs) :
  ObjOk P w H' h' a (.dK kvs):=⟨z,hd,vs,rel,dd⟩
end
section
variable {X:Cx} {pins:List (Addr×Obj)} {σ:St} {H:Hp} {s:Shared} {a:Addr} {kvs:List (Key×V)} {k:Key} {u:Value} {A:Around} {E:Value→Shared→Prop}
theorem d_len {Q:Value→Shared→Prop} (I:Inv X pins σ H s) (e:Rd H a (.dK kvs)) (h:∀ t s',Inv X pins σ H s'→Q (.int kvs.length t) s'):wpAny (model X.prog X.w) A (call (.builtin "len") [.ref a]) Q E s:=by
 obtain ⟨z,hd,vs,rel,dd⟩:=zb2 I.hok e
 refine call_len_dict hd dd (by rw [← rel.length]; rw [sizeLine_eq] at z; omega) ?_
 rw [← rel.length]
 exact h _ _ (I.tok _)
end
section
variable {X:Cx} {o i e value:Expr} {pos pos' tpos:Pos} {td ty tv:TE}
end
theorem z9s {P:Program} {w:World} {H:Hp} (h:Heap) (hb:sysModules < h.objs.size):ObjOk P w H (h.push { cls:=.type "dict",data:=.dict #[] }) h.objs.size (.dK []) :=
 ⟨Nat.zero_le _,beq_eq_false_iff_ne.mpr (Ne.symm (Nat.ne_of_lt hb)),[],.nil,Heap.DictOf.new h⟩
def zdF:TE:=fun _ H Q=>∀ p,H p=none→Q (.ref p) (upd H p (.dK []))
section
variable {X:Cx} {pos:Pos}
theorem zbF:PE X (.Dict [] [] pos) zdF:=fun pins s σ H Q I h =>
 wpAny_Dict_empty ⟨.ref s.heap.objs.size,_,I.laid (a:=s.heap.objs.size) (o:=.dK []) (t':=s.toks) (fun _ _ q=>Heap.get?_push_of_some _ q) (Nat.le_refl _) (z9s s.heap I.big),rfl,h _ (I.hok.fresh (Nat.le_refl _))⟩
end
structure M1 (X:Cx) (o:Expr) (m:Str) (apos:Pos) (e:Expr) (cpos:Pos):Prop where
 base:attributeBase o m X.env (eval o X.env)=eval o X.env
 few:((backTo cpos (starEach [e] X.env)).all (fun x=>!x.1) && (backToKw cpos (keywordEach [] X.env)).all (fun x=>x.1.isSome)
  && decide (([e]:List Expr).length + ([]:List Keyword).length + (if ([]:List Keyword).isEmpty then 0 else 1) < 30))=true
 line:(apos.endLine == cpos.line)=true
 trees:backTo cpos (starEach [e] X.env)=[(false,eval e X.env)]
structure M2 (X:Cx) (o:Expr) (m:Str) (apos:Pos) (e f:Expr) (cpos:Pos):Prop where
 base:attributeBase o m X.env (eval o X.env)=eval o X.env
 few:((backTo cpos (starEach [e,f] X.env)).all (fun x=>!x.1) && (backToKw cpos (keywordEach [] X.env)).all (fun x=>x.1.isSome)
  && decide (([e,f]:List Expr).length + ([]:List Keyword).length + (if ([]:List Keyword).isEmpty then 0 else 1) < 30))=true
 line:(apos.endLine == cpos.line)=true
 trees:backTo cpos (starEach [e,f] X.env)=[(false,eval e X.env),(false,eval f X.env)]
section
variable {X:Cx} {pins:List (Addr×Obj)} {σ:St} {H:Hp} {s:Shared} {a:Addr} {y d:V} {u r:Value} {o:Option V} {A:Around} {E:Value→Shared→Prop}
end
section
variable {X:Cx} {o e f:Expr} {apos cpos:Pos} {td ty tx:TE}
end
section
variable {X:Cx} {pins:List (Addr×Obj)} {σ:St} {H:Hp} {s:Shared} {a:Addr} {kvs:List (Key×V)} {A:Around} {E:Value→Shared→Prop}
end
section
variable {X:Cx} {pins:List (Addr×Obj)} {σ:St} {H:Hp} {s:Shared} {a:Addr} {y:V} {u:Value} {A:Around} {E:Value→Shared→Prop}
end
end L2
namespace Att
open PySem PySem.W PySem.Calls PyProof.Rows
theorem z67 {P:Params} {h:Heap}:∀ (ns:List Int) (vs:List Value),WellAll P h vs (ns.map WData.int)→IntsAre vs ns:=by
 intro ns
 induction ns with
 | nil =>
  intro vs w
  rw [List.map_nil] at w
  cases w
  exact .nil
 | cons n ns ih =>
  intro vs w
  rw [List.map_cons] at w
  cases w with
  | cons a b =>
   cases a
   exact .cons _ _ (ih _ b)
theorem zaa {l:OpenLaw} {n:Nat} (hn:l.most=some n) {P:Params} {h:Heap} {args:List WData} {vals:List Value}
  (hpre:l.row.toRowW.claim.pre args=true) (hwl:WellAll P h vals args) :
  ∃ a vs ns,vals=[Value.ref a]∧args=[WData.list (ns.map WData.int)]∧h.get? a=some { cls:=.type "list",data:=.seq vs.toArray }∧IntsAre vs ns∧ns.length≤n:=by
 have hsh:WShape.hasAll [] args [.list .int]=true:=(pre_splitW hpre).1
 have hc:l.pre.holds [] { args:=args } = true:=(pre_splitW hpre).2
 obtain ⟨d,r,rfl,h1,h2⟩:=hasAllW_cons hsh
 obtain rfl:=hasAllW_nil h2
 obtain ⟨xs,rfl,h3⟩:=hasW_list h1
 obtain ⟨ns,rfl⟩:=items_int h3
 have hlen:ns.length≤n:=by
  unfold OpenLaw.pre at hc
  have h4:(WTm.not (.lt (.lit (.int (n:Int))) (.len (.arg 0)))).holds [] { args:=[.list (ns.map .int)] } = true:=by
   have h4:=(holds_andW hc).1
   rw [hn] at h4
   exact h4
  have h5:=condW_of h4 (w_not (w_lt w_lit (w_len_list (w_arg rfl))))
  rw [List.length_map] at h5
  refine Nat.le_of_not_lt fun q=>?_
  have q':(n:Int) < ((ns.length:Nat):Int):=by omega
  first
   | (rw [decide_eq_true q'] at h5; exact absurd h5 (by decide))
   | (simp at h5; omega)
 cases hwl with
 | cons w1 w2 =>
  cases w2
  cases w1 with
  | list ho hall=>exact ⟨_,_,ns,rfl,rfl,ho,z67 ns _ hall,hlen⟩
theorem zau (l:OpenLaw) (args:List WData):l.row.toRowW.claim.post args (.bool true) args=true :=
 postW_of (r:=l.row.toRowW) (X:=(true == true))
  (show WShape.has [] (.bool true) .bool=true by first | rfl | decide | simp [WShape.has,WShape.arms,WShape.armsAll])
  (show (WTm.eq .res (.lit (.bool true))).value [] { args:=args,res:=some (.bool true),after:=args } = some (.bool (true == true)) from w_eq_bool (w_res rfl) w_lit) rfl
theorem attach_call {l:OpenLaw} {n:Nat} {q:Program} {loose:List Str} {XP:(Str→Option Value)→Heap→Prop} {YP:World→Heap→Prop} {d:DefRec}
  (hn:l.most=some n) (hdf:d.params.defaults=[])
  (call:∀ (w:World) (s₀ s₁:Shared) (mg mb:Str→Option Value) (fa:Addr) (o:Obj) (pm cd doc:Value) (a:Addr) (vs:List Value) (ns:List Int),
   Ground q loose [] XP w s₀ mg mb s₁.heap→YP w s₁.heap →
   s₁.heap.get? fa=some o→o.data = .func (docDef d.name d.params d.body d.scope pm cd doc)→s₁.heap.CodeRec cd d.name→mg d.name=some (.ref fa) →
   s₁.heap.get? a=some { cls:=.type "list",data:=.seq vs.toArray }→IntsAre vs ns→ns.length≤n→s₁.gens = #[] →
   codeAny (model l.prog w) callerA (.call (.ref fa) ⟨[.ref a],[]⟩) (fun r s'=>r = .ok (.ret (.bool true))∧OldK s₁.heap s'.heap∧s'.os=s₁.os∧AllBare s'.gens) s₁) :
  WalkO q loose XP YP l.row.toRowW d [] (fun f vs=>PySem.call f vs):=by
 intro w s₀ s₁ mg mb G Y fa o pm cd doc dV kV ho hd hcd hD hmg hg args vals as hpre hlay hrd hwl hlo
 obtain rfl:dV = .none:=Dflts.none hD hdf
 obtain rfl:kV = .none:=Dflts.noKw hD
 obtain ⟨a,vs,ns,rfl,rfl,hobj,hints,hlen⟩:=zaa hn hpre hwl
 refine enter_call (codeAny_mono (call w s₀ s₁ mg mb fa o pm cd doc a vs ns G Y ho (fd_plain hd) hcd hmg hobj hints hlen hg) fun r s' hq=>?_)
 obtain ⟨rfl,h2,h3,h4⟩:=hq
 exact ⟨.inl ⟨.bool true,.bool true,[],rfl,fun _=>rfl,.bool true,zau l _,fun _=>⟨List.Pairwise.nil,fun _ hm=>(nomatch hm)⟩⟩,h2,h3,h4⟩
section
variable {prog:Program} {w:World} {A:Around} {E:Value→Shared→Prop} {s:Shared} {K:Frag}
end
end Att
namespace L2
open PySem PySem.Spec PyProof.Rows
theorem vals_ints:∀ {vs:List Value} {ns:List Int},IntsAre vs ns→Vals (ns.map V.int) vs
 | _,_,.nil=>.nil
 | _,_,.cons n t h=>.cons ⟨t,rfl⟩ (vals_ints h)
def Only (H:Hp):Prop:=∀ b,H b=none∨∃ o xs,H b=some (.frz o (.lst xs))
theorem zbL {P:Program} {w:World} {K:PySem.W.Frag} {mg mb:Str→Option Value} {CX:CXT} {k:Nat} {fa a:Addr} {fd:FuncData} {x:Str} {sp:Sp} {s₁:Shared} {vs:List Value} {ns:List Int}
  (KX:K.In s₁.heap) (hns:s₁.heap.Ns mainGlobals mg) (hb:s₁.heap.Ns builtinsNs mb) (hbb:∀ x:Str,x≠"__name__"→mb x=bootBuiltins x) (hlim:s₁.heap.NoLimit) (hg:s₁.gens = #[])
  (ha:s₁.heap.get? a=some { cls:=.type "list",data:=.seq vs.toArray }) (hi:IntsAre vs ns) (hl:ns.length≤sizeLine) (hr:Room k callerA)
  (F:∀ base:Heap,K.In base→base.Ns mainGlobals mg→FnOk P w K mg base CX k fa fd [x] sp) (hbind:∀ (s:Shared) (u:Value),BindsTo s fd ⟨[u],[]⟩ [(x,u)])
  (hsp:∀ H:Hp,Only H→SqL K H a (ns.map V.int)→sp [.ref a] H (fun v _=>v = .bl true) fun _ _ _=>False)
  (hCX:∀ H e s',CX [] H s₁ (fun _ _ _=>False) e s'→False) :
  codeAny (model P w) callerA (.call (.ref fa) ⟨[.ref a],[]⟩) (fun r s'=>r = .ok (.ret (.bool true))∧OldK s₁.heap s'.heap∧s'.os=s₁.os∧AllBare s'.gens) s₁:=by
 have rv:=vals_ints hi
 have lenV:=hi.length
 -- from an abstract heap in which nothing but the script may be tracked
 have core:∀ H:Hp,Only H→SqL K H a (ns.map V.int)→HOk P w H s₁.heap→(∀ b,H b≠none→b=a)→(H a≠none→K.lookup a=none) →
   codeAny (model P w) callerA (.call (.ref fa) ⟨[.ref a],[]⟩) (fun r s'=>r = .ok (.ret (.bool true))∧OldK s₁.heap s'.heap∧s'.os=s₁.os∧AllBare s'.gens) s₁:=by
  intro H hO hS hok hA hK
  have base_of:∀ {b:Addr} {o:Obj},s₁.heap.get? b=some o→H b=none→(hidT s₁.heap H).get? b=some o:=fun e n=>zbO e n
  have noA:∀ {b:Addr} {o:Obj} {es:Array DictEntry} {ep:Nat},s₁.heap.get? b=some o→o.data = .dict es ep→H b=none:=fun {b o es ep} e d=>by
   cases q:H b with
   | none=>rfl
   | some u =>
    have e':b=a:=hA b (by rw [q]; simp)
    subst e'
    rw [ha] at e; cases e
    have d':Data.seq vs.toArray _=Data.dict es ep:=d
    cases d'
  have nsK:∀ {b:Addr} {m:Str→Option Value},s₁.heap.Ns b m→(hidT s₁.heap H).Ns b m:=fun {b m} ⟨o,es,ep,e,d,r⟩=>⟨o,es,ep,base_of e (noA e d),d,r⟩
  have hKb:K.In (hidT s₁.heap H):=fun b o e=>base_of (KX b o e) (by
   cases q:H b with
   | none=>rfl
   | some u =>
    have e':b=a:=hA b (by rw [q]; simp)
    subst e'
    rw [hK (by rw [q]; simp)] at e; cases e)
  have hM:Mod K mg (hidT s₁.heap H):=⟨hKb,nsK hns,⟨mb,nsK hb,hbb⟩,let ⟨mc,h1,h2⟩:=hlim; ⟨mc,nsK h1,h2⟩⟩
  have e0:Env0 P w K mg (hidT s₁.heap H) callerA [] s₁ H:=⟨rfl,hM,fun b o e=>zd8 e,Nat.le_of_eq (zaX _ _),trivial,fun b hb=>absurd (show b ∈ ([]:List Addr) from hb) (by simp),hok,.of_eq hg⟩
  refine codeAny_mono ((F _ hKb (nsK hns)).run callerA [] s₁ H ⟨[.ref a],[]⟩ [.ref a] [.ref a] _ _ hr e0 (hbind s₁ (.ref a)) (.cons rfl .nil) (hsp H hO hS)) fun r s' h=>?_
  cases r with
  | error e=>exact (hCX H e s' h).elim
  | ok fl =>
   cases fl with
   | next=>exact False.elim h
   | brk=>exact False.elim h
   | cont=>exact False.elim h
   | ret u =>
    obtain ⟨v,H',os,bare,un,hok',r',q⟩:=h
    have q':v = .bl true:=q
    subst q'
    obtain rfl:u=Value.bool true:=r'
    refine ⟨rfl,OldK.of_keep fun b o e=>?_,os,bare⟩
    cases q:H b with
    | none=>exact un.keep b o e q (by intro z; exact absurd (show b ∈ ([]:List Addr) from z) (by simp)) (by simp)
    | some u =>
     rcases hO b with z | ⟨ob,xs,z⟩
     ·rw [q] at z; cases z
     ·have z2:=un.frzs b ob _ z
      obtain ⟨e1,_⟩:=hok b _ z
      obtain ⟨e2,_⟩:=hok' b _ z2
      rw [e] at e1; cases e1
      exact e2
 cases hk:K.lookup a with
 | some o =>
  -- the script is one of the module's own objects
  have e:=KX a o hk
  rw [ha] at e
  cases e
  refine core (fun _=>none) (fun _=>.inl rfl) (.inr ⟨_,vs.toArray,_,hk,rfl,rfl,rfl,by rw [List.size_toArray,lenV]; exact hl,by simpa using rv⟩) (fun b u z=>by have z':(none:Option HO)=some u:=z; cases z') (fun b z=>absurd rfl z) fun z=>absurd rfl z
 | none =>
  refine core (fun b=>if b=a then some (.frz { cls:=.type "list",data:=.seq vs.toArray } (.lst (ns.map V.int))) else none) (fun b=>?_) (.inl (.inr ⟨{ cls:=.type "list",data:=.seq vs.toArray },if_pos rfl⟩)) (fun b u z=>?_) (fun b z=>?_) fun _=>hk
  ·by_cases hb:b=a
   ·exact .inr ⟨_,_,if_pos hb⟩
   ·exact .inl (if_neg hb)
  ·by_cases hb:b=a
   ·have z':=(if_pos hb).symm.trans z
    cases z'
    subst hb
    exact ⟨ha,by rw [List.length_map]; exact hl,vs,_,rv,ha⟩
   ·have z':=(if_neg hb).symm.trans z
    cases z'
  ·by_cases hb:b=a
   ·exact hb
   ·exact absurd (if_neg hb) z
open PySem PySem.Spec PyProof.Rows
abbrev KOf {K:PySem.W.Frag} {h:Heap} (_:K.In h):PySem.W.Frag:=K
theorem walk_of {l:PySem.W.OpenLaw} {n k:Nat} {q:Program} {loose:List Str} {XP:(Str→Option Value)→Heap→Prop} {YP:World→Heap→Prop} {d:DefRec} {K:Params→PySem.W.Frag} {CX:World→CXT} {sp:World→Sp} {x:Str}
  (hn:l.most=some n) (hn2:n≤sizeLine) (hdf:d.params.defaults=[]) (hr:Room k callerA)
  (hY:∀ (w:World) (h:Heap),YP w h→(K w.params).In h)
  (F:∀ (w:World) (mg:Str→Option Value) (fa:Addr) (h:Heap),(K w.params).In h→h.Ns mainGlobals mg→mg d.name=some (.ref fa) →
   ∃ fd:FuncData,(∀ (s:Shared) (u:Value),BindsTo s fd ⟨[u],[]⟩ [(x,u)]) ∧
    ∀ base:Heap,(K w.params).In base→base.Ns mainGlobals mg→FnOk l.prog w (K w.params) mg base (CX w) k fa fd [x] (sp w))
  (hsp:∀ (w:World) (H:Hp) (a:Addr) (ns:List Int),ns.length≤n→Only H→SqL (K w.params) H a (ns.map V.int)→sp w [.ref a] H (fun v _=>v = .bl true) fun _ _ _=>False)
  (hCX:∀ (w:World) (H:Hp) (s:Shared) (e:Value) (s':Shared),CX w [] H s (fun _ _ _=>False) e s'→False) :
  PySem.W.WalkO q loose XP YP l.row.toRowW d [] (fun f vs=>PySem.call f vs):=by
 refine Att.attach_call hn hdf fun w s₀ s₁ mg mb fa o pm cd doc a vs ns G Y ho hd hcd hmg hobj hints hlen hg=>?_
 have KX:=hY w _ Y
 obtain ⟨fd,hb,hF⟩:=F w mg fa _ KX G.T.g hmg
 exact zbL KX G.T.g G.T.b G.T.builtins G.T.nolimit hg hobj hints (Nat.le_trans hlen hn2) hr hF hb (fun H hO hS=>hsp w H a ns hlen hO hS) fun H e s'=>hCX w H s₁ e s'
open PySem PySem.Spec PyProof.Rows
def z0v (s:Stmt):Arguments:=match s with
 | .FunctionDef _ a _ _ _ _ _ _ _ _=>a
 | _=>{ posonlyargs:=[],args:=[],vararg:=none,kwonlyargs:=[],kw_defaults:=[],kwarg:=none,defaults:=[] }
def z0r (s:Stmt):List Stmt:=match s with
 | .FunctionDef _ _ b _ _ _ _ _ _ _=>b
 | _=>[]
def z06 (s:Stmt):Scope:=match s with
 | .FunctionDef _ _ _ _ _ _ sc _ _ _=>sc
 | _=>{ kind:=.function,names:=[],isGenerator:=false,isCoroutine:=false }
abbrev CX0:CXT:=fun _ _ _ _ _ _=>False
abbrev E0:XK:=fun _ _ _=>False
theorem pass0 {X:Cx}:zbo CX0 X E0:=fun _ _ _ _ _ _ _ h=>h.elim
structure Fun (K:PySem.W.Frag) (x qual:Str) (st:Stmt) (f:Addr) (fd:FuncData):Prop where
 ex:∃ (oc:Value) (od:Option Addr) (kV doc pm:Value) (an:Option Addr) (cdv ct:Value) (osl:Array (Option Value)),
  fd=PySem.W.fnOf x qual (z0v st) (z0r st) (z06 st) .none kV doc pm an cdv ct∧K.lookup f=some ⟨oc,od,.func fd,osl⟩∧PySem.W.codeIn K cdv qual=true
 kp:PySem.W.keepIn K (.ref f)=true
section
variable {P:Program} {w:World} {K:PySem.W.Frag} {mg:Str→Option Value} {base:Heap}
theorem Fun.ok {x qual:Str} {st:Stmt} {f:Addr} {fd:FuncData} {N ps:List Str} {k:Nat} {sp:Sp} (F:Fun K x qual st f fd) (S:FnScope N ps (z06 st)) (len:∀ vs H Q E,sp vs H Q E→vs.length=ps.length)
  (hbody:∀ (cdv:Value) (A:Around) (outer:List Env) (s:Shared) (H:Hp) (vs:List V) (Q:VK) (E:XK),Room k (A.deeper (envOfC qual (z06 st) s.heap.objs.size f cdv))→sp vs H Q E →
   ∃ t,PSs (cxOf CX0 P w K mg base N qual (z06 st) f cdv A outer s H E).nox (z0r st) t∧t { nx:=fun _ H'=>Q .non H',rt:=Q } (z6i N vs) H):FnOk P w K mg base CX0 (k + 1) f fd ps sp:=by
 obtain ⟨oc,od,kV,doc,pm,an,cdv,ct,osl,rfl,lk,hcd⟩:=F.ex
 refine fn_of lk hcd S len fun A outer s H vs Q E hr hsp=>?_
 obtain ⟨t,h,q⟩:=hbody cdv A outer s H vs Q E hr hsp
 exact ⟨t,h.nox,q⟩
theorem Fun.binds {x qual:Str} {st:Stmt} {f:Addr} {fd:FuncData} {ps:List Str} (F:Fun K x qual st f fd)
  (h:∀ (kV doc pm:Value) (an:Option Addr) (cdv ct:Value) (us:List Value),us.length=ps.length→bindArgs (PySem.W.fnOf x qual (z0v st) (z0r st) (z06 st) .none kV doc pm an cdv ct) ⟨us,[]⟩=pure (ps.zip us)):Binds K fd ps []:=by
 obtain ⟨oc,od,kV,doc,pm,an,cdv,ct,osl,rfl,lk,hcd⟩:=F.ex
 exact .all (h kV doc pm an cdv ct)
theorem z0U {x qual:Str} {st:Stmt} {f:Addr} {oc:Value} {od an:Option Addr} {osl:Array (Option Value)} {kV doc pm cdv ct:Value} (l:K.lookup f=some ⟨oc,od,.func (PySem.W.fnOf x qual (z0v st) (z0r st) (z06 st) .none kV doc pm an cdv ct),osl⟩)
  (c:PySem.W.codeIn K cdv qual=true) (k:PySem.W.keepIn K (.ref f)=true):Fun K x qual st f (PySem.W.fnOf x qual (z0v st) (z0r st) (z06 st) .none kV doc pm an cdv ct):=⟨⟨oc,od,kV,doc,pm,an,cdv,ct,osl,rfl,l,c⟩,k⟩
end
theorem za3 {n:Nat} (h:n≤1000):n < sizeLine:=Nat.lt_of_le_of_lt h (by decide)
section
variable {X:Cx}
theorem pv (i:Nat) {x:Str} {pos:Pos} (hN:X.N[i]? = some x:=by rfl) (hv:Vis X.env.scope x:=by first | exact Or.inl rfl | exact Or.inr (Or.inl rfl) | exact Or.inr (Or.inr rfl)) (hd:(x == ("__debug__" : Str))=false:=by decide)
  (hcd:(x == ("__classdict__" : Str))=false:=by decide):PE X (.Name x pos) (tVar i):=zef hN hv hd hcd
theorem zbi:CallR X (.builtin "len") (fun xs H Q=>∃ a kvs,xs=[V.ref a]∧H a=some (.dK kvs)∧Q (.int kvs.length) H):=by
 intro pins s σ H xs us Q I r h
 obtain ⟨a,kvs,rfl,ha,q⟩:=h
 obtain ⟨u,rfl,ru⟩:=z5k r
 cases ru
 exact d_len I (.inl ha) fun t s' I'=>⟨.int kvs.length,H,I',⟨t,rfl⟩,q⟩
end
def Same (H H':Hp):Prop:=∀ b o,H b=some o→H' b=some o
theorem Same.refl (H:Hp):Same H H:=fun _ _ h=>h
theorem Same.trans {H H1 H2:Hp} (a:Same H H1) (b:Same H1 H2):Same H H2:=fun c o h=>b c o (a c o h)
theorem Same.free {H H':Hp} (e:Same H H') {l:Addr} (h:H' l=Option.none):H l=Option.none:=by
 cases q:H l with
 | none=>rfl
 | some o =>
  rw [e l o q] at h
  cases h
theorem Same.seq {K:PySem.W.Frag} {H H':Hp} {a:Addr} {xs:List V} (e:Same H H') (h:SqL K H a xs):SqL K H' a xs:=by
 rcases h with (h | ⟨o,h⟩) | h
 ·exact .inl (.inl (e _ _ h))
 ·exact .inl (.inr ⟨o,e _ _ h⟩)
 ·exact .inr h
section
variable {κ:Type} [DecidableEq κ]
end
open PySem PySem.Spec PyProof.Rows
def z2S (cells:List (Str×Addr)):List (Str×NameKind)→List (Str×Addr)→List (Str×Addr)
 | [],acc=>acc
 | (n,k) :: r,acc=>z2S cells r (if k == .free then (match cells.lookup n with | some a=>(n,a) :: acc | none=>acc) else acc)
theorem z4u {env:Env} (f:Str×NameKind→List (Str×Addr)→Sem (ForInStep (List (Str×Addr))))
  (hf:∀ name kind cs,f (name,kind) cs=if kind == .free then (do let a ← cellOf env name; pure (.yield ((name,a) :: cs))) else pure (.yield cs)) :
  ∀ (names:List (Str×NameKind)) (acc:List (Str×Addr)),(∀ x ∈ names,x.2=NameKind.free→∃ c,env.cells.lookup x.1=some c)→(forIn names acc f:Sem (List (Str×Addr)))=pure (z2S env.cells names acc)
 | [],acc,_=>by rw [List.forIn_nil]; rfl
 | (n,k) :: r,acc,h=>by
  rw [List.forIn_cons,hf]
  unfold z2S
  by_cases hk:(k == NameKind.free)=true
  ·obtain ⟨c,hc⟩:=h (n,k) List.mem_cons_self (by simpa using hk)
   have hc':env.cells.lookup n=some c:=hc
   have e:cellOf env n=pure c:=by unfold cellOf; rw [hc']
   rw [if_pos hk,if_pos hk,e,hc']
   exact z4u f hf r _ fun x hx=>h x (List.mem_cons_of_mem _ hx)
  ·rw [if_neg hk,if_neg hk]
   exact z4u f hf r _ fun x hx=>h x (List.mem_cons_of_mem _ hx)
theorem z6R {env:Env} {scope:Scope} (h:∀ x ∈ scope.names,x.2=NameKind.free→∃ c,env.cells.lookup x.1=some c):closureFor scope env=pure (z2S env.cells scope.names []):=by
 unfold closureFor
 dsimp only
 rw [z4u (env:=env) _ (fun name kind cs=>by cases hkc:kind == NameKind.free <;> simp [hkc]) scope.names [] h]
 rfl
theorem z6Q {cells:List (Str×Addr)} {n:Str} {c:Addr}:∀ (names:List (Str×NameKind)) (acc:List (Str×Addr)),(n,c) ∈ z2S cells names acc→(n,c) ∈ acc∨((n,NameKind.free) ∈ names∧cells.lookup n=some c)
 | [],acc,h=>.inl h
 | (y,k) :: r,acc,h=>by
  unfold z2S at h
  rcases z6Q r _ h with q | ⟨q,e⟩
  ·by_cases hk:(k == NameKind.free)=true
   ·rw [if_pos hk] at q
    have hk':k=NameKind.free:=by simpa using hk
    cases e:cells.lookup y with
    | none=>rw [e] at q; exact .inl q
    | some a =>
     rw [e] at q
     rcases List.mem_cons.mp q with z | z
     ·cases z
      exact .inr ⟨by rw [hk']; exact List.mem_cons_self,e⟩
     ·exact .inl z
   ·rw [if_neg hk] at q; exact .inl q
  ·exact .inr ⟨List.mem_cons_of_mem _ q,e⟩
theorem z6c {cells:List (Str×Addr)} {n:Str}:∀ (names:List (Str×NameKind)) (acc:List (Str×Addr)),(acc.lookup n).isSome=true∨((n,NameKind.free) ∈ names∧(cells.lookup n).isSome=true)→((z2S cells names acc).lookup n).isSome=true
 | [],acc,h=>h.elim id fun z=>absurd z.1 (by simp)
 | (y,k) :: r,acc,h=>by
  unfold z2S
  apply z6c r
  by_cases hk:(k == NameKind.free)=true
  ·rw [if_pos hk]
   cases e:cells.lookup y with
   | none =>
    rcases h with h | ⟨h1,h2⟩
    ·exact .inl h
    ·rcases List.mem_cons.mp h1 with z | z
     ·cases z
      rw [e] at h2; cases h2
     ·exact .inr ⟨z,h2⟩
   | some a =>
    by_cases hn:(n == y)=true
    ·refine .inl ?_
     show (List.lookup n ((y,a) :: acc)).isSome=true
     rw [List.lookup_cons,hn]
     rfl
    ·rcases h with h | ⟨h1,h2⟩
     ·refine .inl ?_
      show (List.lookup n ((y,a) :: acc)).isSome=true
      have hn':(n == y)=false:=by simpa using hn
      rw [List.lookup_cons,hn']
      exact h
     ·rcases List.mem_cons.mp h1 with z | z
      ·cases z
       exact absurd (by simp) hn
      ·exact .inr ⟨z,h2⟩
  ·rw [if_neg hk]
   rcases h with h | ⟨h1,h2⟩
   ·exact .inl h
   ·rcases List.mem_cons.mp h1 with z | z
    ·cases z
     exact absurd rfl hk
    ·exact .inr ⟨z,h2⟩
theorem zbb {n:Str} {c:Addr}:∀ (names:List (Str×NameKind)) (h:Heap) (acc:List (Str×Addr)),(n,c) ∈ cellsFrom h.objs.size names acc →
  (n,c) ∈ acc∨((n,NameKind.cell) ∈ names∧h.objs.size≤c∧(pushCells h names).IsCell c none)
 | [],_,_,h=>.inl h
 | (y,k) :: r,h,acc,hm=>by
  unfold cellsFrom at hm
  unfold pushCells
  by_cases hk:(k == NameKind.cell)=true
  ·rw [if_pos hk] at hm
   rw [if_pos hk]
   have hk':k=NameKind.cell:=by simpa using hk
   have sz:(h.push { cls:=.type "cell",data:=.cell none }).objs.size=h.objs.size + 1:=Heap.size_push ..
   rw [← sz] at hm
   rcases zbb r _ _ hm with q | ⟨q1,q2,q3⟩
   ·rcases List.mem_cons.mp q with z | z
    ·cases z
     refine .inr ⟨by rw [hk']; exact List.mem_cons_self,Nat.le_refl _,?_⟩
     exact Heap.IsCell.keeps ⟨_,Heap.get?_push_size _ rfl,rfl⟩ (pushCells_keeps r _)
    ·exact .inl z
   ·exact .inr ⟨List.mem_cons_of_mem _ q1,by rw [sz] at q2; omega,q3⟩
  ·rw [if_neg hk] at hm
   rw [if_neg hk]
   rcases zbb r _ _ hm with q | ⟨q1,q2,q3⟩
   ·exact .inl q
   ·exact .inr ⟨List.mem_cons_of_mem _ q1,q2,q3⟩
theorem zbc:∀ (names:List (Str×NameKind)) (k:Nat) (acc:List (Str×Addr)),(∀ n n' c,(n,c) ∈ acc→(n',c) ∈ acc→n=n')→(∀ n c,(n,c) ∈ acc→c < k) →
  ∀ n n' c,(n,c) ∈ cellsFrom k names acc→(n',c) ∈ cellsFrom k names acc→n=n'
 | [],_,_,h,_=>h
 | (y,kd) :: r,k,acc,h,hb=>by
  unfold cellsFrom
  by_cases hk:(kd == NameKind.cell)=true
  ·rw [if_pos hk]
   refine zbc r (k + 1) _ (fun n n' c h1 h2=>?_) fun n c hm=>?_
   ·rcases List.mem_cons.mp h1 with e | h1 <;> rcases List.mem_cons.mp h2 with e' | h2
    ·cases e; cases e'; rfl
    ·cases e; exact absurd (hb _ _ h2) (Nat.lt_irrefl _)
    ·cases e'; exact absurd (hb _ _ h1) (Nat.lt_irrefl _)
    ·exact h n n' c h1 h2
   ·rcases List.mem_cons.mp hm with e | hm
    ·cases e; exact Nat.lt_succ_self _
    ·exact Nat.lt_succ_of_lt (hb _ _ hm)
  ·rw [if_neg hk]
   exact zbc r k acc h hb
theorem z1u {env:Env} {x:Str}:∀ {names:List (Str×NameKind)} {k:NameKind},
  (names.map fun (y:Str×NameKind)=>if (y.2 == NameKind.free && env.scope.kind == .function && env.kindOf y.1 == some .cell) then (y.1,NameKind.cell) else (y.1,y.2)).lookup x=some k →
  names.lookup x=some k∨(k=NameKind.cell∧names.lookup x=some .free)
 | [],_,h=>by simp at h
 | (n,kd) :: r,k,h=>by
  rw [List.map_cons] at h
  have ih:=@z1u env x r k
  cases hx:x == n with
  | true =>
   by_cases hc:(kd == NameKind.free && env.scope.kind == .function && env.kindOf n == some .cell)=true
   ·rw [if_pos hc,List.lookup_cons,hx] at h
    cases h
    simp only [Bool.and_eq_true] at hc
    have:kd=NameKind.free:=by simpa using hc.1.1
    exact .inr ⟨rfl,by rw [List.lookup_cons,hx,this]⟩
   ·rw [if_neg hc,List.lookup_cons,hx] at h
    cases h
    exact .inl (by rw [List.lookup_cons,hx])
  | false =>
   have h':(r.map fun (y:Str×NameKind)=>if (y.2 == NameKind.free && env.scope.kind == .function && env.kindOf y.1 == some .cell) then (y.1,NameKind.cell) else (y.1,y.2)).lookup x=some k:=by
    by_cases hc:(kd == NameKind.free && env.scope.kind == .function && env.kindOf n == some .cell)=true
    ·rw [if_pos hc,List.lookup_cons,hx] at h; exact h
    ·rw [if_neg hc,List.lookup_cons,hx] at h; exact h
   rw [List.lookup_cons,hx]
   exact ih h'
def z2v (X:Cx) (scope:Scope) (s₀:Shared) (H₀:Hp) (ex:List Addr):Cx :=
 { X with
  env:={ scope:=relabel scope X.env,locals:=s₀.heap.objs.size,globals:=X.env.globals,cells:=cellsFrom (s₀.heap.objs.size + 1) scope.names (z2S X.env.cells scope.names []),qual:=X.env.qual,func:=none,code:=X.env.code,frame:=X.env.frame,builtins:=X.env.builtins }
  s₀:=s₀
  H₀:=H₀
  outer:=X.stack
  ex:=ex
  fn:=fun x=>scope.names.lookup x == some .cell
  pn:=[]
  xe:=fun _ _=>False }
structure CScope (X:Cx) (scope:Scope) (cs:List Nat):Prop where
 kind:scope.kind = .function
 names:∀ x ∈ scope.names,x.2 = .local→scope.names.lookup x.1=some .local
 free:∀ x ∈ scope.names,x.2 = .free→X.env.kindOf x.1=some .cell∨X.env.kindOf x.1=some .free
 nd:(scope.names.map (·.1)).Nodup
 own:∀ (i:Nat) x,X.N[i]? = some x→scope.names.lookup x=some .local∨scope.names.lookup x=some .cell→i ∈ cs
def clr (cs:List Nat) (σ:St):St:=cs.foldl (fun σ i=>σ.set i none) σ
theorem z7y (cs:List Nat):∀ σ:St,(clr cs σ).length=σ.length:=by
 induction cs with
 | nil=>intro σ; rfl
 | cons i r ih =>
  intro σ
  show (clr r (σ.set i none)).length=_
  rw [ih]; simp
theorem z3Z:∀ (cs:List Nat) (σ:St) (i:Nat) (v:V),(clr cs σ)[i]? = some (some v)→σ[i]? = some (some v)∧i ∉ cs:=by
 intro cs
 induction cs with
 | nil=>intro σ i v h; exact ⟨h,by simp⟩
 | cons j r ih =>
  intro σ i v h
  have h':(clr r (σ.set j none))[i]? = some (some v):=h
  obtain ⟨h1,h2⟩:=ih _ i v h'
  by_cases e:j=i
  ·subst e
   rw [List.getElem?_set] at h1
   simp at h1
  ·rw [List.getElem?_set_ne e] at h1
   exact ⟨h1,by simp only [List.mem_cons,not_or]; exact ⟨Ne.symm e,h2⟩⟩
theorem z61 {α:Type} {x:Str} {k k':α}:∀ {l:List (Str×α)},(l.map (·.1)).Nodup→(x,k) ∈ l→(x,k') ∈ l→k=k'
 | (y,j) :: r,nd,h1,h2=>by
  rw [List.map_cons,List.nodup_cons] at nd
  rcases List.mem_cons.mp h1 with e | g1 <;> rcases List.mem_cons.mp h2 with e' | g2
  ·cases e; cases e'; rfl
  ·cases e; exact absurd (List.mem_map_of_mem (f:=(·.1)) g2) nd.1
  ·cases e'; exact absurd (List.mem_map_of_mem (f:=(·.1)) g1) nd.1
  ·exact z61 nd.2 g1 g2
section
variable {X:Cx} {pins:List (Addr×Obj)} {σ:St} {H:Hp} {s:Shared} {scope:Scope} {cs:List Nat} {fp:List Addr}
theorem z9R (I:Inv X pins σ H s) (S:CScope X scope cs) (hf:∀ b ∈ fp,FpOk X pins H b) (hlt:∀ b ∈ fp,b < s.heap.objs.size) :
  Inv (z2v X scope s H fp) [] (clr cs σ) H { s with heap:=pushCells (s.heap.push { cls:=.type "dict",data:=.dict #[] }) scope.names }:=by
 have sz:(s.heap.push { cls:=.type "dict",data:=.dict #[] }).objs.size=s.heap.objs.size + 1:=Heap.size_push ..
 have kp:∀ b o,s.heap.get? b=some o→(pushCells (s.heap.push { cls:=.type "dict",data:=.dict #[] }) scope.names).get? b=some o:=fun b o e=>pushCells_keeps _ _ b o (Heap.get?_push_of_some _ e)
 have clo:∀ n c,(n,c) ∈ z2S X.env.cells scope.names []→(n,NameKind.free) ∈ scope.names∧X.env.cells.lookup n=some c:=fun n c h=>(z6Q _ _ h).elim (fun z=>absurd z (by simp)) id
 have cltm:∀ n c,(n,c) ∈ z2S X.env.cells scope.names []→c < s.heap.objs.size:=fun n c h=>by
  obtain ⟨v,q⟩:=I.cell n c (clo n c h).2
  exact q.lt
 have cel:∀ n c,(n,c) ∈ cellsFrom (s.heap.objs.size + 1) scope.names (z2S X.env.cells scope.names []) →
   ((n,NameKind.free) ∈ scope.names∧X.env.cells.lookup n=some c)∨((n,NameKind.cell) ∈ scope.names∧s.heap.objs.size + 1≤c∧(pushCells (s.heap.push { cls:=.type "dict",data:=.dict #[] }) scope.names).IsCell c none):=fun n c h=>by
  rw [← sz] at h
  rcases zbb _ _ _ h with q | q
  ·exact .inl (clo n c q)
  ·rw [sz] at q; exact .inr q
 have cinj:=zbc scope.names (s.heap.objs.size + 1) (z2S X.env.cells scope.names []) (fun n n' c h1 h2=>I.ok.inj n n' c (clo n c h1).2 (clo n' c h2).2) (fun n c h=>Nat.lt_succ_of_lt (cltm n c h))
 have hasC:∀ x ∈ scope.names,x.2 = .free→∃ c,X.env.cells.lookup x.1=some c:=fun x hx hk=>I.ok.has x.1 (S.free x hx hk)
 have fpn:∀ b ∈ fp,b ∉ frs X.stack:=fun b hb z=>by
  obtain ⟨_,f1,f2,_⟩:=hf b hb
  rcases List.mem_cons.mp (I.stkSub b z) with e | e
  ·exact f1 e
  ·exact f2 e
 have kindC:∀ x,(z2v X scope s H fp).env.kindOf x=some .cell∨(z2v X scope s H fp).env.kindOf x=some .free→scope.names.lookup x=some .cell∨scope.names.lookup x=some .free:=fun x h=>by
  rcases h with h | h
  ·have h':(relabel scope X.env).names.lookup x=some .cell:=h
   rcases z1u (env:=X.env) (names:=scope.names) h' with q | ⟨_,q⟩
   ·exact .inl q
   ·exact .inr q
  ·have h':(relabel scope X.env).names.lookup x=some .free:=h
   rcases z1u (env:=X.env) (names:=scope.names) h' with q | ⟨q,_⟩
   ·exact .inr q
   ·cases q
 have hasIt:∀ x,scope.names.lookup x=some .cell∨scope.names.lookup x=some .free→∃ c,(cellsFrom (s.heap.objs.size + 1) scope.names (z2S X.env.cells scope.names [])).lookup x=some c:=fun x h=>by
  refine Option.isSome_iff_exists.mp (PySem.W.cellsFrom_some scope.names _ _ ?_)
  rcases h with h | h
  ·exact .inl h
  ·refine .inr (z6c _ _ (.inr ⟨PySem.mem_of_lookup h,?_⟩))
   obtain ⟨c,hc⟩:=hasC _ (PySem.mem_of_lookup h) rfl
   exact Option.isSome_iff_exists.mpr ⟨c,hc⟩
 have ns0:(pushCells (s.heap.push { cls:=.type "dict",data:=.dict #[] }) scope.names).Ns s.heap.objs.size fun _=>none:=(Heap.Ns.new s.heap (.type "dict")).keeps (pushCells_keeps _ _)
 refine ⟨⟨I.ok.mod,S.kind,I.ok.glob,I.ok.blt,Nat.le_refl _,fun y z c h1 h2=>cinj y z c (PySem.mem_of_lookup h1) (PySem.mem_of_lookup h2),fun x hx=>hasIt x (kindC x hx),fun x c hfn h=>?_,I.ok.hd,I.ok.frames,.inl rfl,
  fun b hb=>⟨Nat.ne_of_lt (hlt b hb),fun x c h e=>?_⟩,I.bs,Nat.le_trans I.ok.bsz I.sz,fun b o e hb=>?_,fpn,I.stack,I.stkFree⟩,
  rfl,I.bare,Un.kept kp,⟨fun _=>none,ns0,fun i x v h1 h2 h3=>?_⟩,fun x c h=>?_,I.hok.fresh (Nat.le_refl _),fun x c h=>?_,fun p hp=>absurd (show p ∈ ([]:List (Addr×Obj)) from hp) (by simp),I.hok.kept kp,(z7y cs σ).trans I.len⟩
 ·rcases cel x c (PySem.mem_of_lookup h) with q | q
  ·have hfn':scope.names.lookup x=some .cell:=by
    have:(scope.names.lookup x == some .cell)=true:=hfn
    exact eq_of_beq this
   have:=z61 S.nd q.1 (PySem.mem_of_lookup hfn')
   cases this
  ·exact Nat.le_of_succ_le q.2.1
 ·subst e
  rcases cel x c (PySem.mem_of_lookup h) with q | q
  ·exact (hf c hb).2.2.2.2.1 x c q.2 rfl
  ·exact absurd (Nat.lt_of_lt_of_le (hlt c hb) (Nat.le_of_succ_le q.2.1)) (Nat.lt_irrefl _)
 ·obtain ⟨_,_,_,f3,_⟩:=hf b hb
  rcases f3 with z | z
  ·exact I.ok.noex b o e z
  ·exact absurd (Nat.lt_of_lt_of_le (Heap.lt_size (I.ok.bs b o e).1) z) (Nat.lt_irrefl _)
 ·obtain ⟨h2',hni⟩:=z3Z cs σ i v h2
  have hni':¬ (scope.names.lookup x=some .local∨scope.names.lookup x=some .cell):=fun z=>hni (S.own i x h1 z)
  have hfree:scope.names.lookup x=some .free:=by
   rcases h3 with h3 | h3 | h3
   ·rcases z1u (env:=X.env) (names:=scope.names) h3 with q | ⟨q,_⟩
    ·exact absurd (.inl q) hni'
    ·cases q
   ·rcases z1u (env:=X.env) (names:=scope.names) h3 with q | ⟨_,q⟩
    ·exact absurd (.inr q) hni'
    ·exact q
   ·rcases z1u (env:=X.env) (names:=scope.names) h3 with q | ⟨q,_⟩
    ·exact q
    ·cases q
  have hk:=S.free _ (PySem.mem_of_lookup hfree) rfl
  obtain ⟨m,hn,hl⟩:=I.loc
  have hvis:Vis X.env.scope x:=by
   rcases hk with hk | hk
   ·exact .inr (.inl hk)
   ·exact .inr (.inr hk)
  obtain ⟨u,r,l⟩:=hl i x v h1 h2' hvis
  refine ⟨u,r,?_⟩
  rcases l with ⟨k,_⟩ | ⟨_,c,hc,hcell⟩
  ·have k':X.env.kindOf x=some .local:=k
   rcases hk with hk | hk
   ·rw [show X.env.kindOf x=some .cell from hk] at k'; cases k'
   ·rw [show X.env.kindOf x=some .free from hk] at k'; cases k'
  ·obtain ⟨c',hc'⟩:=hasIt x (.inr hfree)
   have e:c'=c:=by
    rcases cel x c' (PySem.mem_of_lookup hc') with q | q
    ·have q2:=q.2
     rw [hc] at q2; exact (Option.some.inj q2).symm
    ·have:=z61 S.nd q.1 (PySem.mem_of_lookup hfree)
     cases this
   subst e
   refine .inr ⟨?_,c',hc',hcell.keeps kp⟩
   rcases h3 with h3 | h3 | h3
   ·rcases z1u (env:=X.env) (names:=scope.names) h3 with q | ⟨q,_⟩
    ·rw [hfree] at q; cases q
    ·cases q
   ·exact .inl h3
   ·exact .inr h3
 ·rcases cel x c (PySem.mem_of_lookup h) with q | q
  ·obtain ⟨v,z⟩:=I.cell x c q.2
   exact ⟨v,z.keeps kp⟩
  ·exact ⟨none,q.2.2⟩
 ·rcases cel x c (PySem.mem_of_lookup h) with q | q
  ·exact I.freeC x c q.2
  ·exact I.hok.fresh (Nat.le_of_succ_le q.2.1)
end
open PySem PySem.Spec PyProof.Rows
abbrev NoX:Value→Shared→Prop:=fun _ _=>False
def zcn (ifs:List Expr) (env:Env):Sem Bool:=forIn ifs true fun c r=>if r=true then do let ok ← isTrue c env (eval c env); pure (ForInStep.yield ok) else pure (ForInStep.yield r)
theorem z8o {prog:Program} {w:World} {A:Around} {R:Result→Shared→Prop} {s:Shared} {elt target iter:Expr} {ifs:List Expr} {scope:Scope} {pos:Pos} {it acc:Value} {env:Env} (I:Nat→Shared→Prop)
  (turn:∀ n s,I n s→wpAny (model prog w) A (pyNext it) (fun r s₁=>match r with
   | none=>R (.ok .next) s₁
   | some v=>wpAny (model prog w) A (letOwnedTupleGo target it v) (fun _ s₁'=>wpAny (model prog w) A (assign target env v) (fun _ s₂ =>
     wpAny (model prog w) A (zcn ifs env) (fun ok s₃ =>
      if ok=true then wpAny (model prog w) A (eval elt env) (fun x s₄ =>
       wpAny (model prog w) A (call (.builtin "list.append") [acc,x]) (fun _ s₅=>∃ m,m < n∧I m s₅) NoX s₄) NoX s₃
      else ∃ m,m < n∧I m s₃) NoX s₂) NoX s₁') NoX s₁) NoX s)
  (n:Nat) (h:I n s) :
  codeAny (model prog w) A (.compLoop (.ListComp elt [⟨target,iter,ifs,0⟩] scope pos) 0 it acc env) R s:=by
 refine codeAny_loop rfl I (fun n s hI=>?_) n h
 show wpAny _ A ((compTurn (.ListComp elt [⟨target,iter,ifs,0⟩] scope pos) 0 it acc env).onRaise (fun x=>do noteFrame x env; theTreesLotGoes x)) _ _ s
 refine wpAny_noted ?_
 rw [compTurn_list]
 refine wpAny_bind (wpAny_standAt (wpAny_bind (wpAny_mono (turn n s hI) (fun r s₁ h₁=>?_) fun _ _ h'=>h'.elim)))
 cases r with
 | none=>exact wpAny_pure h₁
 | some v =>
  refine wpAny_bind (wpAny_mono h₁ (fun _ s₁' h₁'=>?_) fun _ _ h'=>h'.elim)
  refine wpAny_bind (wpAny_mono h₁' (fun _ s₂ h₂=>wpAny_bind (wpAny_mono h₂ (fun ok s₃ h₃=>?_) fun _ _ h'=>h'.elim)) fun _ _ h'=>h'.elim)
  cases ok with
  | false=>exact wpAny_pure ⟨rfl,h₃⟩
  | true =>
   exact wpAny_bind (wpAny_bind (wpAny_mono h₃ (fun x s₄ h₄=>wpAny_bind (wpAny_mono h₄ (fun _ s₅ h₅=>wpAny_pure (wpAny_pure ⟨rfl,h₅⟩)) fun _ _ h'=>h'.elim)) fun _ _ h'=>h'.elim))
theorem z9K {M:Model} {A:Around} {E:Value→Shared→Prop} {s:Shared} {scope:Scope} {globals:Addr} {cl:List (Str×Addr)} {qual:Str} {env:Env} {Q:Env→Shared→Prop}
  (h:Q { scope,locals:=s.heap.objs.size,globals,cells:=cellsFrom (s.heap.objs.size + 1) scope.names cl,qual,func:=none,code:=env.code,frame:=env.frame,builtins:=env.builtins }
   { s with heap:=pushCells (s.heap.push { cls:=.type "dict",data:=.dict #[] }) scope.names }):wpAny M A (newFunctionEnv scope globals cl [] qual none .none (some env)) Q E s:=by
 simp only [newFunctionEnv,Option.isSome_some,if_true]
 refine wpAny_bind (wpAny_alloc ?_)
 refine wpAny_bind (wpAny_layCells _ (fun name kind cells=>by cases hkc:kind == NameKind.cell <;> simp [hkc]) _ _ _ _ ?_)
 rw [show ({ s with heap:=s.heap.push { cls:=.type "dict",data:=.dict #[] } }:Shared).heap.objs.size=s.heap.objs.size + 1 from Heap.size_push ..]
 exact wpAny_bind (wpAny_pure (wpAny_pure h))
def PTs (X:Cx) (ifs:List Expr) (t:TT):Prop :=
 ∀ (pins:List (Addr×Obj)) (s:Shared) (σ:St) (H:Hp) (Q:Bool→Hp→Prop),Inv X pins σ H s→t σ H Q→wpAny (model X.prog X.w) X.A (zcn ifs X.env) (TP X pins σ Q) X.xe s
def tYes:TT:=fun _ H Q=>Q true H
theorem zcV {X:Cx}:PTs X [] tYes:=fun pins s σ H Q I h=>wpAny_tests_nil ⟨H,I,h⟩
def Le (σ σ':St):Prop:=σ'.length=σ.length∧∀ (i:Nat) (v:V),σ[i]? = some (some v)→σ'[i]? = some (some v)
def zco (cs:List Nat) (g:TG) (tt:TT) (te:TE) (σ:St) (Q:VK) (J:It) (H1:Hp):Prop :=
 ∀ l,H1 l=none→∃ W:Nat→Nat→Hp→Prop,(∃ m,W 0 m (upd H1 l (.lst [])))∧∀ i m H2,W i m H2 →
  (J.stop i H2∧Q (.ref l) H2) ∨
  (J.go i H2∧∀ x H3,J.yld i H2 x H3→g x (clr cs σ) H3 fun σ4 H4=>Le (clr cs σ) σ4∧tt σ4 H4 fun b H5 =>
   if b=true then te σ4 H5 fun v H6=>∃ ys m',H6 l=some (.lst ys)∧ys.length < sizeLine∧m' < m∧W (i + 1) m' (upd H6 l (.lst (ys ++ [v]))) else ∃ m',m' < m∧W (i + 1) m' H5)
def zcw (cs:List Nat) (wi:TI) (g:TG) (tt:TT) (te:TE):TE:=fun σ H Q=>wi σ H fun J H1=>zco cs g tt te σ Q J H1
section
variable {X:Cx} {pins:List (Addr×Obj)} {σ:St} {H:Hp} {s:Shared} {scope:Scope} {cs:List Nat} {elt tg iter:Expr} {ifs:List Expr} {pos:Pos} {g:TG} {tt:TT} {te:TE}
theorem z6P {it:Addr} {fp:List Addr} {tn:Nat→Heap→Prop} {J:It} {Q:VK} {E:Value→Shared→Prop} {RR:Value→Addr→Result→Shared→Prop} (hc:X.calm=true) (I:Inv X pins σ H s) (S:CScope X scope cs)
  (T:Turn X.prog X.w X.K tg J fp it tn) (st:tn 0 s.heap) (hf:∀ b ∈ fp,FpOk X pins H b)
  (hg:∀ s₀ H₀ ex,PG (z2v X scope s₀ H₀ ex) tg g) (ht:∀ s₀ H₀ ex,PTs (z2v X scope s₀ H₀ ex) ifs tt) (he:∀ s₀ H₀ ex,PE (z2v X scope s₀ H₀ ex) elt te) (q:zco cs g tt te σ Q J H)
  (hRR:∀ l C s' H',Inv X pins σ H' s'→FpOk X pins H' C→(∃ m,s'.heap.Ns C m)→Q (.ref l) H'→RR (.ref l) C (.ok .next) s') :
  wpAny (model X.prog X.w) X.A (newList []) (fun acc s₃=>wpAny (model X.prog X.w) X.A (newFunctionEnv scope X.env.globals (z2S X.env.cells scope.names []) [] X.env.qual none .none (some X.env)) (fun cenv s₄ =>
   codeAny (model X.prog X.w) X.A (.compStart (.ListComp elt [⟨tg,iter,ifs,0⟩] scope pos) 0 (.ref it) acc { cenv with scope:=relabel scope X.env }) (RR acc cenv.locals) s₄) E s₃) E s:=by
 refine wpAny_newObj_type ?_
 have hfr:H s.heap.objs.size=none:=I.hok.fresh (Nat.le_refl _)
 obtain ⟨W,⟨m0,w0⟩,turn⟩:=q s.heap.objs.size hfr
 generalize hl:s.heap.objs.size=l at *
 have I3:Inv X pins σ (upd H l (.lst [])) { s with heap:=s.heap.push { cls:=.type "list",dict:=none,data:=.seq ([]:List Value).toArray } } :=
  I.laid (t':=s.toks) (fun b u e=>Heap.get?_push_of_some _ e) (Nat.le_of_eq hl) ⟨Nat.zero_le _,[],0,.nil,by rw [← hl]; exact Heap.get?_push_size _ rfl⟩
 have kp3:∀ b o,s.heap.get? b=some o→(s.heap.push { cls:=.type "list",dict:=none,data:=.seq ([]:List Value).toArray }).get? b=some o:=fun b o e=>Heap.get?_push_of_some _ e
 have hfl:∀ b ∈ fp,b≠l:=fun b hb e=>by
  obtain ⟨o,ho,_⟩:=T.obj 0 _ st b hb
  exact absurd (Heap.lt_size ho) (by rw [e,hl]; exact Nat.lt_irrefl _)
 have hf3:∀ b ∈ fp,FpOk X pins (upd H l (.lst [])) b:=fun b hb=>⟨by rw [z0K (hfl b hb)]; exact (hf b hb).1,(hf b hb).2⟩
 have st3:tn 0 (s.heap.push { cls:=.type "list",dict:=none,data:=.seq ([]:List Value).toArray }):=T.keep 0 _ _ st fun b _ o e=>kp3 b o e
 generalize hs3:({ s with heap:=s.heap.push { cls:=.type "list",dict:=none,data:=.seq ([]:List Value).toArray } }:Shared)=s3 at I3
 have st3':tn 0 s3.heap:=by rw [← hs3]; exact st3
 have hlt3:∀ b ∈ fp,b < s3.heap.objs.size:=fun b hb=>by
  obtain ⟨o,ho,_⟩:=T.obj 0 _ st3' b hb
  exact Heap.lt_size ho
 refine z9K ?_
 have I4:=z9R I3 S hf3 hlt3
 generalize hX:z2v X scope s3 (upd H l (.lst [])) fp=X' at I4
 generalize hs4:({ s3 with heap:=pushCells (s3.heap.push { cls:=.type "dict",data:=.dict #[] }) scope.names }:Shared)=s4 at I4 ⊢
 have hg':=hg s3 (upd H l (.lst [])) fp
 have ht':=ht s3 (upd H l (.lst [])) fp
 have he':=he s3 (upd H l (.lst [])) fp
 rw [hX] at hg' ht' he'
 have st4:tn 0 s4.heap:=T.keep 0 _ _ st3' fun b _ o e=>by rw [← hs4]; exact pushCells_keeps _ _ b o (Heap.get?_push_of_some _ e)
 have hP:X'.prog=X.prog:=by rw [← hX]; rfl
 have hw:X'.w=X.w:=by rw [← hX]; rfl
 have hA:X'.A=X.A:=by rw [← hX]; rfl
 have hK:X'.K=X.K:=by rw [← hX]; rfl
 have hc':X'.calm=true:=by rw [← hX]; exact hc
 have hxe:X'.xe=NoX:=by rw [← hX]; rfl
 have hloc:X'.env.locals=s3.heap.objs.size:=by rw [← hX]; rfl
 have henv:({ scope:=relabel scope X.env,locals:=s3.heap.objs.size,globals:=X.env.globals,cells:=cellsFrom (s3.heap.objs.size + 1) scope.names (z2S X.env.cells scope.names []),qual:=X.env.qual,func:=none,code:=X.env.code,frame:=X.env.frame,builtins:=X.env.builtins }:Env)=X'.env:=by rw [← hX]; rfl
 have fpx:∀ {H':Hp},(∀ b ∈ fp,H' b=none)→∀ b ∈ fp,FpOk X' [] H' b:=fun {H'} hn b hb=>by
  have ex:X'.ex=fp:=by rw [← hX]; rfl
  have pn:X'.pn=[]:=by rw [← hX]; rfl
  refine ⟨hn b hb,(I4.ok.exf b (by rw [ex]; exact hb)).1,I4.ok.exfs b (by rw [ex]; exact hb),.inl (by rw [ex]; exact hb),(I4.ok.exf b (by rw [ex]; exact hb)).2,fun p hp=>?_⟩
  rw [pn] at hp
  simp at hp
 show codeAny (model X.prog X.w) X.A (.compStart (.ListComp elt [⟨tg,iter,ifs,0⟩] scope pos) 0 (.ref it) (.ref l) ({ scope:=relabel scope X.env,locals:=s3.heap.objs.size,globals:=X.env.globals,cells:=cellsFrom (s3.heap.objs.size + 1) scope.names (z2S X.env.cells scope.names []),qual:=X.env.qual,func:=none,code:=X.env.code,frame:=X.env.frame,builtins:=X.env.builtins }:Env)) (RR (.ref l) s3.heap.objs.size) s4
 rw [henv]
 have loop:codeAny (model X.prog X.w) X.A (.compLoop (.ListComp elt [⟨tg,iter,ifs,0⟩] scope pos) 0 (.ref it) (.ref l) X'.env) (RR (.ref l) s3.heap.objs.size) s4:=by
  refine z8o (fun n s'=>∃ i H',Inv X' [] (clr cs σ) H' s'∧tn i s'.heap∧(∀ b ∈ fp,H' b=none)∧W i n H') ?_ m0 ⟨0,_,I4,st4,fun b hb=>(hf3 b hb).1,w0⟩
  rintro n s5 ⟨i,H5,I5,st5,fr5,w5⟩
  rcases turn i n H5 w5 with ⟨stop,qn⟩ | ⟨go,step⟩
  ·have:=T.done X' hP hw hK hc' i [] s5 (clr cs σ) H5 NoX I5 (fpx fr5) st5 stop
   rw [hA] at this
   refine thn this fun r s6 ⟨hr,I6⟩=>?_
   subst hr
   have b6:=I6.base
   have e1:X'.fs=frs X.stack:=by rw [← hX]; rfl
   have e2:X'.ex=fp:=by rw [← hX]; rfl
   have e3:X'.H₀=upd H l (.lst []):=by rw [← hX]; rfl
   have e4:X'.s₀=s3:=by rw [← hX]; rfl
   rw [e1,e2,e3,e4] at b6
   have o6:s6.os=s3.os:=by rw [← e4]; exact I6.os
   have hok6:HOk X.prog X.w H5 s6.heap:=by rw [← hP,← hw]; exact I6.hok
   have J6:Inv X pins σ H5 s6:=I3.call' o6 b6 hok6 I6.bare fun b hb=>by
    obtain ⟨_,f1,_,f3,f4,f5⟩:=hf3 b hb
    exact ⟨f3,f1,f4,f5⟩
   obtain ⟨m6,n6,_⟩:=I6.loc
   rw [hloc] at n6
   refine hRR l s3.heap.objs.size s6 H5 J6 (I3.fpOk (Nat.le_refl _) ?_) ⟨m6,n6⟩ qn
   rw [← hloc]
   exact I6.free
  ·have:=T.item X' hP hw hK hc' i [] s5 (clr cs σ) H5 NoX I5 (fpx fr5) st5 go
   rw [hA] at this
   refine thn this fun r s6 ⟨u,hr,h6⟩=>?_
   subst hr
   refine thn h6 fun _ s7 ⟨x,H7,I7,r7,y7,st7,fr7⟩=>?_
   have I7':=I7.pinned (fpx fr7) (T.obj _ _ st7)
   have a8:=hg' _ s7 (clr cs σ) H7 x u _ I7' r7 (step x H7 y7)
   rw [hP,hw,hA,hxe] at a8
   refine thn a8 fun _ s8 ⟨σ8,H8,I8,le8,q8⟩=>?_
   have a9:=ht' _ s8 σ8 H8 _ I8 q8
   rw [hP,hw,hA,hxe] at a9
   refine thn a9 fun ok s9 ⟨H9,I9,q9⟩=>?_
   have back:∀ {H':Hp} {s':Shared},Inv X' ([] ++ z7Y fp s7.heap) σ8 H' s'→Inv X' [] (clr cs σ) H' s'∧tn (i + 1) s'.heap∧∀ b ∈ fp,H' b=none:=fun {H' s'} J=>by
    refine ⟨J.unpinned.weak (le8.1.symm) le8.2,T.keep _ _ _ st7 fun b hb o e=>(J.pin (b,o) (List.mem_append_right _ (List.mem_append_right _ (z47 hb e)))).1,fun b hb=>?_⟩
    obtain ⟨o,e,d⟩:=T.obj _ _ st7 b hb
    exact (J.pin (b,o) (List.mem_append_right _ (List.mem_append_right _ (z47 hb e)))).2.1
   cases ok with
   | false =>
    rw [if_neg Bool.false_ne_true] at q9 ⊢
    obtain ⟨m',hm,w9⟩:=q9
    obtain ⟨b1,b2,b3⟩:=back I9
    exact ⟨m',hm,i + 1,H9,b1,b2,b3,w9⟩
   | true =>
    rw [if_pos rfl] at q9 ⊢
    have a10:=he' _ s9 σ8 H9 _ I9 q9
    rw [hP,hw,hA,hxe] at a10
    refine thn a10 fun x10 s10 ⟨v,H10,I10,r10,ys,m',hy,hz,hm,w10⟩=>?_
    have a11:=z8a (X:=X') _ s10 σ8 H10 (.ref l) [v] (.ref l) [x10] (fun _ H'=>W (i + 1) m' H') I10 rfl (.cons r10 .nil) ⟨l,ys,v,rfl,rfl,hy,hz,w10⟩
    rw [hP,hw,hA,hxe] at a11
    refine thn a11 fun _ s11 ⟨_,H11,I11,_,w11⟩=>?_
    obtain ⟨b1,b2,b3⟩:=back I11
    exact ⟨m',hm,i + 1,H11,b1,b2,b3,w11⟩
 exact codeAny_compStart_list loop (T.self X.A 0 s4 _ _ st4 loop)
theorem zd2 {wi:TI} (hc:X.calm=true) (S:CScope X scope cs) (hi:PI X tg iter wi) (hg:∀ s₀ H₀ ex,PG (z2v X scope s₀ H₀ ex) tg g) (ht:∀ s₀ H₀ ex,PTs (z2v X scope s₀ H₀ ex) ifs tt) (he:∀ s₀ H₀ ex,PE (z2v X scope s₀ H₀ ex) elt te)
  (hs:∀ x,foldedSetIterable iter X.env x=pure x:=by intro _; rfl):PE X (.ListComp elt [⟨tg,iter,ifs,0⟩] scope pos) (zcw cs wi g tt te):=by
 intro pins s σ H Q I h
 have hasC:∀ x ∈ scope.names,x.2 = .free→∃ c,X.env.cells.lookup x.1=some c:=fun x hx hk=>I.ok.has x.1 (S.free x hx hk)
 rw [eval_ListComp]
 refine wpAny_comprehension_free (use:=none) rfl hs (z6R hasC) S.kind S.names (thn (hi pins s σ H _ I h) fun xv s1 h1=>thn h1 fun itv s2 h2=>?_)
 obtain ⟨it,fp,tn,J,H2,e,I2,T,st2,f2,q2⟩:=h2
 subst e
 refine z6P (RR:=fun acc C=>compPost (model X.prog X.w) X.A X.xe none (EP X pins σ Q) acc C) hc I2 S T st2 f2 hg ht he q2 ?_
 intro l C s' H' I' fC ⟨m,n⟩ q
 exact ⟨m,n,fun h' hs'=>⟨.ref l,H',I'.turned (t':=s'.toks) (fun b o hb e=>(hs'.2 b hb).trans e) fC.1 fC.2.1 fC.2.2.2.1 fC.2.2.2.2.1 fC.2.2.2.2.2,rfl,q⟩⟩
theorem z9G {wi:TI} {i:Nat} {y:Str} {py spos:Pos} (hc:X.calm=true) (S:CScope X scope cs) (hN:X.N.Nodup) (hi':X.N[i]? = some y) (hy:X.env.scope.names.lookup y=some .local)
  (hi:PI X tg iter wi) (hg:∀ s₀ H₀ ex,PG (z2v X scope s₀ H₀ ex) tg g) (ht:∀ s₀ H₀ ex,PTs (z2v X scope s₀ H₀ ex) ifs tt) (he:∀ s₀ H₀ ex,PE (z2v X scope s₀ H₀ ex) elt te)
  (hsw:swapsWith (.ListComp elt [⟨tg,iter,ifs,0⟩] scope pos) (some (.Name y py)) spos.line X.env=pure true:=by rfl)
  (hs:∀ x,foldedSetIterable iter X.env x=pure x:=by intro _; rfl):PS X (.Assign [.Name y py] (.ListComp elt [⟨tg,iter,ifs,0⟩] scope pos) spos) (tAsg (zcw cs wi g tt te) (zbR i)):=by
 intro pins s σ H D I h
 have hasC:∀ x ∈ scope.names,x.2 = .free→∃ c,X.env.cells.lookup x.1=some c:=fun x hx hk=>I.ok.has x.1 (S.free x hx hk)
 rw [exec_Assign_Name_used _ _ _ _ hsw]
 refine wpAny_bind (wpAny_standAt (wpAny_bind ?_))
 show wpAny _ X.A (do let _ ← comprehension (.ListComp elt [⟨tg,iter,ifs,0⟩] scope pos) scope X.env _ (newList []) false (eval iter X.env) (some (assign (.Name y py) X.env))) _ _ s
 refine wpAny_bind (wpAny_mono (wpAny_comprehension_free (use:=some (assign (.Name y py) X.env)) (Q:=fun _ s'=>SP X pins D .next s') rfl hs (z6R hasC) S.kind S.names
  (thn (hi pins s σ H _ I h) fun xv s1 h1=>thn h1 fun itv s2 h2=>?_)) (fun _ s' hq=>wpAny_pure (wpAny_pure hq)) fun _ _ e=>e)
 obtain ⟨it,fp,tn,J,H2,e,I2,T,st2,f2,q2⟩:=h2
 subst e
 refine z6P (RR:=fun acc C=>compPost (model X.prog X.w) X.A X.xe (some (assign (.Name y py) X.env)) (fun _ s'=>SP X pins D .next s') acc C) hc I2 S T st2 f2 hg ht he q2 ?_
 intro l C s' H' I' fC ⟨m,n⟩ q
 show wpAny _ X.A (assign (.Name y py) X.env (.ref l)) _ _ _
 refine wpAny_assign_Name (z7H I' hN hi' (.inl hy) (v:=.ref l) rfl (fun s'' I'' ⟨a,hsb,ha⟩=>?_) (.inr hy))
 have hne:C≠a:=by
  rcases ha with rfl | ha
  ·exact fC.2.1
  ·exact fun e=>fC.2.2.2.2.1 y a ha e.symm
 refine ⟨m,n.sameBut hsb hne,fun h' hs'=>⟨_,H',I''.turned (t':=s''.toks) (fun b o hb e=>(hs'.2 b hb).trans e) fC.1 fC.2.1 fC.2.2.2.1 fC.2.2.2.2.1 fC.2.2.2.2.2,q⟩⟩
end
end L2
set_option Elab.async false
set_option linter.all false
set_option maxRecDepth 100000
set_option maxHeartbeats 4000000
namespace DV
open PySem PySem.Spec PyProof.Rows L2
abbrev Tx:=List Nat
def toS (x:Tx):Str:=⟨x.toArray⟩
theorem z8w (x:Tx):(toS x).cps.toList=x:=by simp [toS]
theorem z34 (x:Tx):(toS x).length=x.length:=by simp [toS,Str.length]
theorem z8v {x y:Tx} (h:toS x=toS y):x=y:=by
 have:=congrArg (fun z:Str=>z.cps.toList) h
 simpa [toS] using this
theorem zdC (z:Str):z=toS z.cps.toList:=by simp [toS]
abbrev DKey:=Sum Int Tx
def kOf:DKey→Key
 | .inl i=>.inl i
 | .inr x=>.inr (toS x)
inductive D where
 | non | bl (b:Bool) | int (i:Int) | str (x:Tx) | tup (xs:List D) | lst (xs:List D) | dct (kvs:List (DKey×D))
inductive S where
 | pure (d:D)
 | own (d:D)
def S.d:S→D
 | .pure d=>d
 | .own d=>d
abbrev Dl:=List (Option S)
abbrev St:=L2.St
inductive Rep (H:Hp) (O:Addr→Prop):V→D→Prop
 | non:Rep H O .non .non
 | bl (b:Bool):Rep H O (.bl b) (.bl b)
 | int (i:Int):Rep H O (.int i) (.int i)
 | str (x:Tx):Rep H O (.str (toS x)) (.str x)
 | tup {a:Addr} {vs:List V} {ds:List D}:¬ O a→H a=some (.tup vs)→vs.length=ds.length→(∀ (i:Nat) v d,vs[i]? = some v→ds[i]? = some d→Rep H O v d)→Rep H O (.ref a) (.tup ds)
 | lst {a:Addr} {vs:List V} {ds:List D}:¬ O a→Rd H a (.lst vs)→vs.length=ds.length→(∀ (i:Nat) v d,vs[i]? = some v→ds[i]? = some d→Rep H O v d)→Rep H O (.ref a) (.lst ds)
 | dct {a:Addr} {ws:List (Key×V)} {ds:List (DKey×D)}:¬ O a→H a=some (.dK ws)→ws.map (·.1)=ds.map (fun p=>kOf p.1)→(∀ (i:Nat) p q,ws[i]? = some p→ds[i]? = some q→Rep H O p.2 q.2)→Rep H O (.ref a) (.dct ds)
abbrev Reps (H:Hp) (O:Addr→Prop) (vs:List V) (ds:List D):Prop:=vs.length=ds.length∧∀ (i:Nat) v d,vs[i]? = some v→ds[i]? = some d→Rep H O v d
def OwnAt (H:Hp) (O:Addr→Prop) (a:Addr):D→Prop
 | .lst ds=>∃ vs,H a=some (.lst vs)∧Reps H O vs ds
 | .dct ds=>∃ ws:List (Key×V),H a=some (.dK ws)∧ws.map (·.1)=ds.map (fun p=>kOf p.1)∧∀ (i:Nat) p q,ws[i]? = some p→ds[i]? = some q→Rep H O p.2 q.2
 | _=>False
section
variable {H H':Hp} {O O':Addr→Prop} {v:V} {d:D} {vs:List V} {ds:List D} {a:Addr}
theorem Rd.keep {u:HO} (h:Rd H a u) (k:∀ o,H a=some o→H' a=some o):Rd H' a u:=by
 rcases h with h | ⟨o,h⟩
 ·exact .inl (k _ h)
 ·exact .inr ⟨o,k _ h⟩
theorem Rd.some {u:HO} (h:Rd H a u):∃ o,H a=some o:=by
 rcases h with h | ⟨o,h⟩
 ·exact ⟨_,h⟩
 ·exact ⟨_,h⟩
theorem Rep.keep (h:Rep H O v d) (k:∀ a o,H a=some o→¬ O a→H' a=some o):Rep H' O v d:=by
 induction h with
 | non=>exact .non
 | bl b=>exact .bl b
 | int i=>exact .int i
 | str x=>exact .str x
 | tup h1 h2 h3 _ ih=>exact .tup h1 (k _ _ h2 h1) h3 ih
 | lst h1 h2 h3 _ ih=>exact .lst h1 (Rd.keep h2 fun o e=>k _ o e h1) h3 ih
 | dct h1 h2 h3 _ ih=>exact .dct h1 (k _ _ h2 h1) h3 ih
theorem Rep.anti (h:Rep H O v d) (k:∀ a,O' a→O a∨H a=none):Rep H O' v d:=by
 have no:∀ {a:Addr} {u:HO},¬ O a→Rd H a u→¬ O' a:=fun {a u} h1 h2 z=>by
  rcases k a z with q | q
  ·exact h1 q
  ·obtain ⟨o,e⟩:=Rd.some h2
   rw [q] at e; cases e
 induction h with
 | non=>exact .non
 | bl b=>exact .bl b
 | int i=>exact .int i
 | str x=>exact .str x
 | tup h1 h2 h3 _ ih=>exact .tup (no h1 (.inl h2)) h2 h3 ih
 | lst h1 h2 h3 _ ih=>exact .lst (no h1 h2) h2 h3 ih
 | dct h1 h2 h3 _ ih=>exact .dct (no h1 (.inl h2)) h2 h3 ih
theorem Reps.keep (h:Reps H O vs ds) (k:∀ a o,H a=some o→¬ O a→H' a=some o):Reps H' O vs ds:=⟨h.1,fun i v d e1 e2=>(h.2 i v d e1 e2).keep k⟩
theorem Reps.anti (h:Reps H O vs ds) (k:∀ a,O' a→O a∨H a=none):Reps H O' vs ds:=⟨h.1,fun i v d e1 e2=>(h.2 i v d e1 e2).anti k⟩
theorem Reps.nil:Reps H O [] []:=⟨rfl,fun i v d e _=>by simp at e⟩
theorem Reps.cons (h:Rep H O v d) (r:Reps H O vs ds):Reps H O (v :: vs) (d :: ds):=by
 refine ⟨by simp [r.1],fun i v' d' e1 e2=>?_⟩
 cases i with
 | zero=>simp at e1 e2; subst e1; subst e2; exact h
 | succ i=>exact r.2 i v' d' (by simpa using e1) (by simpa using e2)
theorem Reps.head {v:V} {d:D} (r:Reps H O (v :: vs) (d :: ds)):Rep H O v d:=r.2 0 v d rfl rfl
theorem Reps.tail {v:V} {d:D} (r:Reps H O (v :: vs) (d :: ds)):Reps H O vs ds:=⟨by simpa using r.1,fun i v' d' e1 e2=>r.2 (i + 1) v' d' (by simpa using e1) (by simpa using e2)⟩
theorem Reps.append {vs':List V} {ds':List D} (h:Reps H O vs ds) (h':Reps H O vs' ds'):Reps H O (vs ++ vs') (ds ++ ds'):=by
 induction vs generalizing ds with
 | nil =>
  cases ds with
  | nil=>exact h'
  | cons d r=>have:=h.1; simp at this
 | cons v r ih =>
  cases ds with
  | nil=>have:=h.1; simp at this
  | cons d q=>exact .cons h.head (ih h.tail)
theorem Reps.get {i:Nat} (h:Reps H O vs ds) (e:ds[i]? = some d):∃ v,vs[i]? = some v∧Rep H O v d:=by
 have hi:i < ds.length:=(List.getElem?_eq_some_iff.mp e).1
 have hv:i < vs.length:=by rw [h.1]; exact hi
 exact ⟨vs[i],by simp [hv],h.2 i _ d (by simp [hv]) e⟩
theorem Reps.take (n:Nat) (h:Reps H O vs ds):Reps H O (vs.take n) (ds.take n):=by
 refine ⟨by simp [h.1],fun i v d e1 e2=>?_⟩
 by_cases hi:i < n
 ·rw [List.getElem?_take_of_lt hi] at e1 e2
  exact h.2 i v d e1 e2
 ·rw [List.getElem?_take_eq_none (by omega)] at e1; cases e1
theorem Reps.drop (n:Nat) (h:Reps H O vs ds):Reps H O (vs.drop n) (ds.drop n):=by
 refine ⟨by simp [h.1],fun i v d e1 e2=>?_⟩
 rw [List.getElem?_drop] at e1 e2
 exact h.2 (n + i) v d e1 e2
theorem Reps.set (h:Reps H O vs ds) (r:Rep H O v d) (j:Nat):Reps H O (vs.set j v) (ds.set j d):=by
 refine ⟨by simp [h.1],fun i v' d' e1 e2=>?_⟩
 by_cases hi:j=i
 ·subst hi
  rw [List.getElem?_set] at e1 e2
  simp at e1 e2
  obtain ⟨_,rfl⟩:=e1
  obtain ⟨_,rfl⟩:=e2
  exact r
 ·rw [List.getElem?_set_ne hi] at e1 e2
  exact h.2 i v' d' e1 e2
theorem Reps.reverse (h:Reps H O vs ds):Reps H O vs.reverse ds.reverse:=by
 refine ⟨by simp [h.1],fun i v d e1 e2=>?_⟩
 have hl:=h.1
 have h1:i < vs.length:=by have:=(List.getElem?_eq_some_iff.mp e1).1; simpa using this
 rw [List.getElem?_reverse (by omega)] at e1
 rw [List.getElem?_reverse (by omega)] at e2
 exact h.2 (vs.length - 1 - i) v d e1 (by rw [hl]; exact e2)
theorem OwnAt.keep (h:OwnAt H O a d) (hk:∀ b o,H b=some o→¬ O b→H' b=some o) (ha:∀ o,H a=some o→H' a=some o):OwnAt H' O a d:=by
 cases d <;> first
  | exact h.elim
  | (obtain ⟨vs,e,r⟩:=h; exact ⟨vs,ha _ e,Reps.keep r hk⟩)
  | (obtain ⟨ws,e,r,q⟩:=h; exact ⟨ws,ha _ e,r,fun i p p' e1 e2=>(q i p p' e1 e2).keep hk⟩)
theorem OwnAt.anti (h:OwnAt H O a d) (k:∀ a,O' a→O a∨H a=none):OwnAt H O' a d:=by
 cases d <;> first
  | exact h.elim
  | (obtain ⟨vs,e,r⟩:=h; exact ⟨vs,e,Reps.anti r k⟩)
  | (obtain ⟨ws,e,r,q⟩:=h; exact ⟨ws,e,r,fun i p p' e1 e2=>(q i p p' e1 e2).anti k⟩)
theorem OwnAt.some (h:OwnAt H O a d):∃ o,H a=some o:=by
 cases d <;> first
  | exact h.elim
  | (obtain ⟨vs,e,r⟩:=h; exact ⟨_,e⟩)
theorem OwnAt.rep (h:OwnAt H O a d) (ho:¬ O a):Rep H O (.ref a) d:=by
 cases d with
 | lst ds=>obtain ⟨vs,e,r⟩:=h; exact .lst ho (.inl e) r.1 r.2
 | dct ds=>obtain ⟨ws,e,r,q⟩:=h; exact .dct ho e r q
 | _=>exact h.elim
end
structure Xc where
 cls:Tx
 flds:List D
structure Fc where
 H₀:Hp
 B:Addr→Prop
 pin:List (Nat×Addr)
 xc:Xc→Dl→Prop:=fun _ _=>False
def Fc.plus (c:Fc) (p:Addr):Fc:={ c with B:=fun a=>c.B a∨a=p }
def Fc.I (c:Fc) (a:Addr):Prop:=∃ i,(i,a) ∈ c.pin
def Own (σ:St) (δ:Dl) (a:Addr):Prop:=∃ (i:Nat) (d:D),δ[i]? = some (some (.own d))∧σ[i]? = some (some (.ref a))
def Av (c:Fc) (σ:St) (δ:Dl) (a:Addr):Prop:=c.B a∨Own σ δ a
structure Ok (c:Fc) (σ:St) (δ:Dl) (H:Hp):Prop where
 keep:∀ a o,c.H₀ a=some o→¬ c.I a→H a=some o
 bd:∀ a,c.B a→∃ o,H a=some o
 ith:∀ a,c.I a→∃ o,H a=some o
 len:δ.length=σ.length
 slot:∀ (i:Nat) d,δ[i]? = some (some (.pure d))→∃ v,σ[i]? = some (some v)∧Rep H (Av c σ δ) v d
 own:∀ (i:Nat) d,δ[i]? = some (some (.own d))→∃ a,σ[i]? = some (some (.ref a))∧OwnAt H (Av c σ δ) a d∧(c.I a∨c.H₀ a=none)∧¬ c.B a
 inj:∀ (i j:Nat) a d d',δ[i]? = some (some (.own d))→δ[j]? = some (some (.own d'))→σ[i]? = some (some (.ref a))→σ[j]? = some (some (.ref a))→i=j
 pinned:∀ p ∈ c.pin,σ[p.1]? = some (some (.ref p.2))
structure Aft (c:Fc) (σ:St) (δ:Dl) (H:Hp) (σ':St) (δ':Dl) (H':Hp):Prop where
 ok:Ok c σ' δ' H'
 keep:∀ a o,H a=some o→¬ Own σ δ a→H' a=some o
 own:∀ a,Own σ' δ' a→Own σ δ a∨H a=none
 there:∀ a o,H a=some o→∃ o',H' a=some o'
section
variable {c:Fc} {σ σ' σ'':St} {δ δ' δ'':Dl} {H H' H'':Hp} {v:V} {d:D} {a p:Addr}
theorem Ok.bthere (k:Ok c σ δ H) (h:c.B a):∃ o,H a=some o:=k.bd a h
theorem Ok.othere (k:Ok c σ δ H) (h:Own σ δ a):∃ o,H a=some o:=by
 obtain ⟨i,d,e1,e2⟩:=h
 obtain ⟨b,e3,q,_⟩:=k.own i d e1
 rw [e2] at e3; cases e3
 exact q.some
theorem Ok.avthere (k:Ok c σ δ H) (h:Av c σ δ a):∃ o,H a=some o:=h.elim k.bthere k.othere
theorem Ok.nav (k:Ok c σ δ H) (h:H a=none):¬ Av c σ δ a:=fun z=>by
 obtain ⟨o,e⟩:=k.avthere z
 rw [h] at e; cases e
theorem Aft.refl (k:Ok c σ δ H):Aft c σ δ H σ δ H:=⟨k,fun _ _ e _=>e,fun _ h=>.inl h,fun _ o e=>⟨o,e⟩⟩
theorem Aft.trans (x:Aft c σ δ H σ' δ' H') (y:Aft c σ' δ' H' σ'' δ'' H''):Aft c σ δ H σ'' δ'' H'':=by
 refine ⟨y.ok,fun a o e n=>?_,fun a h=>?_,fun a o e=>?_⟩
 ·refine y.keep a o (x.keep a o e n) fun z=>?_
  rcases x.own a z with q | q
  ·exact n q
  ·rw [q] at e; cases e
 ·rcases y.own a h with q | q
  ·exact x.own a q
  ·right
   cases e:H a with
   | none=>rfl
   | some o =>
    obtain ⟨o',e'⟩:=x.there a o e
    rw [q] at e'; cases e'
 ·obtain ⟨o',e'⟩:=x.there a o e
  exact y.there a o' e'
theorem Aft.av (x:Aft c σ δ H σ' δ' H'):∀ a,Av c σ' δ' a→Av c σ δ a∨H a=none:=fun a h=>by
 rcases h with h | h
 ·exact .inl (.inl h)
 ·rcases x.own a h with q | q
  ·exact .inl (.inr q)
  ·exact .inr q
theorem Rep.aft (h:Rep H (Av c σ δ) v d) (x:Aft c σ δ H σ' δ' H'):Rep H' (Av c σ' δ') v d:=by
 have h1:Rep H (fun a=>Av c σ δ a∨Av c σ' δ' a) v d:=Rep.anti h fun a z=>z.elim .inl (x.av a)
 exact (h1.keep fun a o e n=>x.keep a o e fun z=>n (.inl (.inr z))).anti fun a z=>.inl (.inr z)
theorem Reps.aft {vs:List V} {ds:List D} (h:Reps H (Av c σ δ) vs ds) (x:Aft c σ δ H σ' δ' H'):Reps H' (Av c σ' δ') vs ds:=⟨h.1,fun i v d e1 e2=>Rep.aft (h.2 i v d e1 e2) x⟩
def RepS (c:Fc) (σ:St) (δ:Dl) (Hs H:Hp) (v:V):S→Prop
 | .pure d=>Rep H (Av c σ δ) v d
 | .own d=>∃ a,v = .ref a∧OwnAt H (Av (c.plus a) σ δ) a d∧¬ c.B a∧c.H₀ a=none∧Ok (c.plus a) σ δ H∧Hs a=none
theorem z4I (k:Ok (c.plus a) σ δ H):¬ Own σ δ a:=fun ⟨i,d,e1,e2⟩=>by
 obtain ⟨b,e3,_,_,n⟩:=k.own i d e1
 rw [e2] at e3; cases e3
 exact n (.inr rfl)
theorem RepS.rep {Hs:Hp} {r:S} (h:RepS c σ δ Hs H v r):Rep H (Av c σ δ) v r.d:=by
 cases r with
 | pure d=>exact h
 | own d =>
  obtain ⟨a,rfl,o,n,f,k,_⟩:=h
  refine (o.anti fun b z=>.inl ?_).rep fun z=>z.elim n (z4I k)
  exact z.elim (fun z=>.inl (.inl z)) .inr
theorem RepS.back {r:S} {Hs H':Hp} {σ₀:St} {δ₀:Dl} (h:RepS c σ δ Hs H v r) (x:Aft c σ₀ δ₀ H' σ' δ' Hs):RepS c σ δ H' H v r:=by
 cases r with
 | pure d=>exact h
 | own d =>
  obtain ⟨a,e,o,n,f,k,hs⟩:=h
  refine ⟨a,e,o,n,f,k,?_⟩
  cases q:H' a with
  | none=>rfl
  | some o =>
   obtain ⟨o',e'⟩:=x.there a o q
   rw [hs] at e'; cases e'
theorem RepS.home {r:S} {Hs:Hp} (h:RepS c σ δ Hs H v r):RepS c σ δ c.H₀ H v r:=by
 cases r with
 | pure d=>exact h
 | own d =>
  obtain ⟨a,e,o,n,f,k,hs⟩:=h
  exact ⟨a,e,o,n,f,k,f⟩
theorem Ok.alloc (k:Ok c σ δ H) (hp:H p=none) (o:HO):Ok c σ δ (upd H p o):=by
 have up:∀ a w,H a=some w→upd H p o a=some w:=fun a w e=>by
  rw [z0K (z14 e hp)]; exact e
 refine ⟨fun a w e n=>up a w (k.keep a w e n),fun a z=>(k.bd a z).elim fun w e=>⟨w,up a w e⟩,fun a z=>(k.ith a z).elim fun w e=>⟨w,up a w e⟩,k.len,fun i d e=>?_,fun i d e=>?_,k.inj,k.pinned⟩
 ·obtain ⟨v,e1,r⟩:=k.slot i d e
  exact ⟨v,e1,r.keep fun a w q _=>up a w q⟩
 ·obtain ⟨a,e1,r,q⟩:=k.own i d e
  exact ⟨a,e1,r.keep (fun b w q _=>up b w q) fun w q=>up a w q,q⟩
theorem Aft.alloc (k:Ok c σ δ H) (hp:H p=none) (o:HO):Aft c σ δ H σ δ (upd H p o):=by
 have up:∀ a w,H a=some w→upd H p o a=some w:=fun a w e=>by
  rw [z0K (z14 e hp)]; exact e
 exact ⟨k.alloc hp o,fun a w e _=>up a w e,fun a h=>.inl h,fun a w e=>⟨w,up a w e⟩⟩
theorem Ok.fresh₀ (k:Ok c σ δ H) (hp:H p=none):c.H₀ p=none:=by
 cases e:c.H₀ p with
 | none=>rfl
 | some o =>
  by_cases q:c.I p
  ·obtain ⟨w,e'⟩:=k.ith p q
   rw [hp] at e'; cases e'
  ·have:=k.keep p o e q
   rw [hp] at this; cases this
theorem Ok.plus (k:Ok c σ δ H) (hp:H p=none) (o:HO):Ok (c.plus p) σ δ (upd H p o):=by
 have k':=k.alloc hp o
 have sub:∀ b,Av (c.plus p) σ δ b→Av c σ δ b∨b=p:=fun b z=>by
  rcases z with (z | z) | z
  ·exact .inl (.inl z)
  ·exact .inr z
  ·exact .inl (.inr z)
 have sub2:∀ b,Av (c.plus p) σ δ b→Av c σ δ b∨H b=none:=fun b z=>(sub b z).elim .inl fun e=>.inr (by rw [e]; exact hp)
 have up:∀ a w,H a=some w→upd H p o a=some w:=fun a w e=>by
  rw [z0K (z14 e hp)]; exact e
 refine ⟨k'.keep,fun a z=>?_,k'.ith,k.len,fun i d e=>?_,fun i d e=>?_,k.inj,k.pinned⟩
 ·rcases z with z | z
  ·exact k'.bd a z
  ·exact ⟨o,by rw [z]; exact z1m⟩
 ·obtain ⟨v,e1,r⟩:=k.slot i d e
  exact ⟨v,e1,(r.anti sub2).keep fun a w q _=>up a w q⟩
 ·obtain ⟨a,e1,r,q,nb⟩:=k.own i d e
  refine ⟨a,e1,(r.anti sub2).keep (fun b w q _=>up b w q) (fun w q=>up a w q),q,fun z=>?_⟩
  rcases z with z | z
  ·exact nb z
  ·obtain ⟨w,ew⟩:=r.some
   rw [z,hp] at ew; cases ew
theorem RepS.newL {vs:List V} {ds:List D} (k:Ok c σ δ H) (r:Reps H (Av c σ δ) vs ds) (hp:H p=none):RepS c σ δ H (upd H p (.lst vs)) (.ref p) (.own (.lst ds)):=by
 have up:∀ a w,H a=some w→upd H p (.lst vs) a=some w:=fun a w e=>by
  rw [z0K (z14 e hp)]; exact e
 refine ⟨p,rfl,⟨vs,z1m,?_⟩,fun z=>k.nav hp (.inl z),k.fresh₀ hp,k.plus hp _,hp⟩
 have r1:Reps H (Av (c.plus p) σ δ) vs ds:=Reps.anti r fun b z=>by
  rcases z with (z | z) | z
  ·exact .inl (.inl z)
  ·exact .inr (by rw [z]; exact hp)
  ·exact .inl (.inr z)
 exact Reps.keep r1 fun b w e _=>up b w e
theorem RepS.newT {vs:List V} {ds:List D} (k:Ok c σ δ H) (r:Reps H (Av c σ δ) vs ds) (hp:H p=none):RepS c σ δ H (upd H p (.tup vs)) (.ref p) (.pure (.tup ds)):=by
 have up:∀ a w,H a=some w→upd H p (.tup vs) a=some w:=fun a w e=>by
  rw [z0K (z14 e hp)]; exact e
 have r1:=Reps.keep r (H':=upd H p (.tup vs)) fun b w e _=>up b w e
 exact .tup (k.nav hp) z1m r1.1 r1.2
end
inductive Rs (α:Type) where
 | ok (a:α) (δ:Dl)
 | exc (x:Xc) (δ:Dl)
 | stuck
def Rs.bind {α β:Type} (r:Rs α) (f:α→Dl→Rs β):Rs β:=match r with
 | .ok a δ=>f a δ
 | .exc x δ=>.exc x δ
 | .stuck=>.stuck
abbrev DE:=Dl→Rs S
def XC (c:Fc) (x:Xc) (δ:Dl):Prop:=c.xc x δ
def post {α:Type} (c:Fc) (r:Rs α) (k:α→Dl→Prop):Prop:=match r with
 | .ok a δ=>k a δ
 | .exc x δ=>XC c x δ
 | .stuck=>False
theorem z0b {α β:Type} {c:Fc} {r:Rs α} {f:α→Dl→Rs β} {k:β→Dl→Prop}:post c (r.bind f) k ↔ post c r fun a δ=>post c (f a δ) k:=by
 cases r <;> exact Iff.rfl
theorem z07 {α:Type} {c:Fc} {r:Rs α} {k k':α→Dl→Prop} (h:post c r k) (m:∀ a δ,k a δ→k' a δ):post c r k':=by
 cases r with
 | ok a δ=>exact m a δ h
 | exc x δ=>exact h
 | stuck=>exact h
def tD (c:Fc) (f:DE):TE:=fun σ H Q=>∃ δ,Ok c σ δ H∧post c (f δ) fun r δ'=>∀ v H',Aft c σ δ H σ δ' H'→RepS c σ δ' H H' v r→Q v H'
abbrev SE (X:Cx) (c:Fc) (e:Expr) (f:DE):Prop:=PE X e (tD c f)
def RepB (c:Fc) (σ:St) (δ:Dl) (H:Hp) (v:V) (d:D):Prop:=Rep H (Av c σ δ) v d∨∃ a,v = .ref a∧OwnAt H (Av c σ δ) a d
abbrev BE:=Dl→Rs D
def tB (c:Fc) (f:BE):TE:=fun σ H Q=>∃ δ,Ok c σ δ H∧post c (f δ) fun d δ'=>∀ v H',Aft c σ δ H σ δ' H'→RepB c σ δ' H' v d→Q v H'
abbrev SB (X:Cx) (c:Fc) (e:Expr) (f:BE):Prop:=PE X e (tB c f)
theorem PE.weak {X:Cx} {e:Expr} {t t':TE} (h:PE X e t) (w:∀ σ H Q,t' σ H Q→t σ H Q):PE X e t':=fun pins s σ H Q I q=>h pins s σ H Q I (w σ H Q q)
def bOf (f:DE):BE:=fun δ=>(f δ).bind fun r δ'=>.ok r.d δ'
theorem RepS.b {c:Fc} {σ:St} {δ:Dl} {Hs H:Hp} {v:V} {r:S} (h:RepS c σ δ Hs H v r):RepB c σ δ H v r.d:=.inl h.rep
theorem z08 {X:Cx} {c:Fc} {e:Expr} {f:DE} (h:SE X c e f):SB X c e (bOf f):=PE.weak h fun σ H Q ⟨δ,k,p⟩=>⟨δ,k,by
 unfold bOf at p
 rw [z0b] at p
 exact z07 p fun r δ' q v H' a s=>q v H' a s.b⟩
def bVar (i:Nat):BE:=fun δ=>match δ[i]? with
 | some (some r)=>.ok r.d δ
 | _=>.stuck
def eVar (i:Nat):DE:=fun δ=>match δ[i]? with
 | some (some (.pure d))=>.ok (.pure d) δ
 | some (some (.own d))=>.ok (.pure d) (δ.set i (some (.pure d)))
 | _=>.stuck
def eD (d:D):DE:=fun δ=>.ok (.pure d) δ
section
variable {X:Cx} {c:Fc}
theorem z0a {i:Nat} {e:Expr} (h:PE X e (tVar i)):SB X c e (bVar i):=PE.weak h fun σ H Q ⟨δ,k,p⟩=>by
 unfold bVar at p
 cases e:δ[i]? with
 | none=>rw [e] at p; exact p.elim
 | some o =>
  cases o with
  | none=>rw [e] at p; exact p.elim
  | some r =>
   rw [e] at p
   cases r with
   | pure d =>
    obtain ⟨v,e1,r⟩:=k.slot i d e
    exact ⟨v,e1,p v H (.refl k) (.inl r)⟩
   | own d =>
    obtain ⟨a,e1,r,_⟩:=k.own i d e
    exact ⟨.ref a,e1,p _ H (.refl k) (.inr ⟨a,rfl,r⟩)⟩
theorem Own.sub {σ:St} {δ:Dl} {i:Nat} {d:D} {a:Addr} (h:Own σ (δ.set i (some (.pure d))) a):Own σ δ a:=by
 obtain ⟨j,d',e1,e2⟩:=h
 by_cases hj:i=j
 ·subst hj
  rw [List.getElem?_set] at e1
  simp at e1
 ·rw [List.getElem?_set_ne hj] at e1
  exact ⟨j,d',e1,e2⟩
theorem Ok.give {σ:St} {δ:Dl} {H:Hp} {i:Nat} {d:D} (k:Ok c σ δ H) (e:δ[i]? = some (some (.own d))) :
  ∃ a,σ[i]? = some (some (.ref a))∧Aft c σ δ H σ (δ.set i (some (.pure d))) H∧Rep H (Av c σ (δ.set i (some (.pure d)))) (.ref a) d:=by
 obtain ⟨a,e1,r,q,nb⟩:=k.own i d e
 have hi:i < δ.length:=(List.getElem?_eq_some_iff.mp e).1
 have sub:∀ b,Av c σ (δ.set i (some (.pure d))) b→Av c σ δ b:=fun b z=>z.elim .inl fun z=>.inr z.sub
 have na:¬ Av c σ (δ.set i (some (.pure d))) a:=by
  rintro (z | ⟨j,d',f1,f2⟩)
  ·exact nb z
  ·by_cases hj:i=j
   ·subst hj
    rw [List.getElem?_set] at f1
    simp at f1
   ·rw [List.getElem?_set_ne hj] at f1
    exact hj (k.inj i j a d d' e f1 e1 f2)
 have rep:Rep H (Av c σ (δ.set i (some (.pure d)))) (.ref a) d:=(r.anti fun b z=>.inl (sub b z)).rep na
 refine ⟨a,e1,⟨⟨k.keep,k.bd,k.ith,by rw [List.length_set]; exact k.len,fun j d' f=>?_,fun j d' f=>?_,fun j l b d1 d2 f1 f2=>?_,k.pinned⟩,fun _ _ w _=>w,fun b z=>.inl z.sub,fun _ o w=>⟨o,w⟩⟩,rep⟩
 ·by_cases hj:i=j
  ·subst hj
   rw [List.getElem?_set_self hi] at f
   cases f
   exact ⟨.ref a,e1,rep⟩
  ·rw [List.getElem?_set_ne hj] at f
   obtain ⟨v,g1,g2⟩:=k.slot j d' f
   exact ⟨v,g1,g2.anti fun b z=>.inl (sub b z)⟩
 ·by_cases hj:i=j
  ·subst hj
   rw [List.getElem?_set_self hi] at f
   cases f
  ·rw [List.getElem?_set_ne hj] at f
   obtain ⟨b,g1,g2,g3⟩:=k.own j d' f
   exact ⟨b,g1,g2.anti fun b z=>.inl (sub b z),g3⟩
 ·have h1:δ[j]? = some (some (.own d1)):=by
   by_cases hj:i=j
   ·subst hj; rw [List.getElem?_set_self hi] at f1; cases f1
   ·rw [List.getElem?_set_ne hj] at f1; exact f1
  have h2:δ[l]? = some (some (.own d2)):=by
   by_cases hj:i=l
   ·subst hj; rw [List.getElem?_set_self hi] at f2; cases f2
   ·rw [List.getElem?_set_ne hj] at f2; exact f2
  exact k.inj j l b d1 d2 h1 h2
theorem z01 {i:Nat} {e:Expr} (h:PE X e (tVar i)):SE X c e (eVar i):=PE.weak h fun σ H Q ⟨δ,k,p⟩=>by
 unfold eVar at p
 cases e:δ[i]? with
 | none=>rw [e] at p; exact p.elim
 | some o =>
  cases o with
  | none=>rw [e] at p; exact p.elim
  | some r =>
   rw [e] at p
   cases r with
   | pure d =>
    obtain ⟨v,e1,r⟩:=k.slot i d e
    exact ⟨v,e1,p v H (.refl k) r⟩
   | own d =>
    obtain ⟨a,e1,x,r⟩:=k.give e
    exact ⟨.ref a,e1,p _ H x r⟩
theorem z04 {i j pos}:SE X c (.Constant (.int i) j pos) (eD (.int i)):=PE.weak zcc fun σ H Q ⟨δ,k,p⟩=>p _ H (.refl k) (.int i)
theorem z30 {b j pos}:SE X c (.Constant (.bool b) j pos) (eD (.bl b)):=PE.weak pe_bl fun σ H Q ⟨δ,k,p⟩=>p _ H (.refl k) (.bl b)
theorem z7M {j pos}:SE X c (.Constant .none j pos) (eD .non):=PE.weak zem fun σ H Q ⟨δ,k,p⟩=>p _ H (.refl k) .non
theorem z6E {x j pos} (y:Tx) (h:x=toS y:=by decide +kernel):SE X c (.Constant (.str x) j pos) (eD (.str y)):=by
 subst h
 exact PE.weak zcb fun σ H Q ⟨δ,k,p⟩=>p _ H (.refl k) (.str y)
theorem z9z {x:Str} {i:Int} {t:Tok} {pos:Pos} (hg:Gl X x) (hm:X.mg x=some (.int i t)) (hd:(x == ("__debug__" : Str))=false:=by decide):SE X c (.Name x pos) (eD (.int i)) :=
 PE.weak (zd1 (v:=.int i) hg hm ⟨t,rfl⟩ hd) fun σ H Q ⟨δ,k,p⟩=>p _ H (.refl k) (.int i)
end
open PySem PySem.Spec PyProof.Rows L2 PySem.SeqAt
mutual
def eqD:D→D→Bool
 | .non,.non=>true
 | .bl a,.bl b=>a == b
 | .int a,.int b=>a == b
 | .bl a,.int b=>(if a then 1 else 0) == b
 | .int a,.bl b=>a == (if b then 1 else 0)
 | .str a,.str b=>a == b
 | .tup xs,.tup ys=>eqDs xs ys
 | .lst xs,.lst ys=>eqDs xs ys
 | _,_=>false
def eqDs:List D→List D→Bool
 | [],[]=>true
 | x :: xs,y :: ys=>eqD x y && eqDs xs ys
 | _,_=>false
end
mutual
def flat:Nat→D→Bool
 | _,.non=>true
 | _,.bl _=>true
 | _,.int _=>true
 | _,.str _=>true
 | 0,.tup _=>false
 | n + 1,.tup xs=>z4r n xs
 | 0,.lst _=>false
 | n + 1,.lst xs=>z4r n xs
 | _,.dct _=>false
def z4r:Nat→List D→Bool
 | _,[]=>true
 | n,x :: xs=>flat n x && z4r n xs
end
example:eqD (.tup [.int 1,.str [2]]) (.tup [.int 1,.str [2]])=true:=by decide +kernel
theorem z3d {n:Nat}:∀ {xs:List D} {x:D},z4r n xs=true→x ∈ xs→flat n x=true
 | [],_,_,h=>by simp at h
 | y :: ys,x,h,hm=>by
  simp only [z4r,Bool.and_eq_true] at h
  rcases List.mem_cons.mp hm with e | hm
  ·rw [e]; exact h.1
  ·exact z3d h.2 hm
theorem z5G:∀ {xs ys:List D} {f:Nat→Bool},xs.length=ys.length→(∀ (j:Nat) x y,xs[j]? = some x→ys[j]? = some y→f j=eqD x y)→(List.range xs.length).all f=eqDs xs ys
 | [],[],f,_,_=>rfl
 | [],y :: ys,f,h,_=>by simp at h
 | x :: xs,[],f,h,_=>by simp at h
 | x :: xs,y :: ys,f,h,hf=>by
  simp only [eqDs]
  rw [List.length_cons,List.range_succ_eq_map,List.all_cons,hf 0 x y rfl rfl,List.all_map]
  rw [← z5G (f:=fun j=>f (j + 1)) (by simpa using h) (fun j a b e1 e2=>hf (j + 1) a b (by simpa using e1) (by simpa using e2))]
  rfl
theorem z5F:∀ {xs ys:List D},xs.length≠ys.length→eqDs xs ys=false
 | [],[],h=>absurd rfl h
 | [],y :: ys,_=>rfl
 | x :: xs,[],_=>rfl
 | x :: xs,y :: ys,h=>by
  simp only [eqDs]
  rw [z5F (xs:=xs) (ys:=ys) (by intro e; exact h (by simp [e]))]
  simp
mutual
theorem z49:∀ {n:Nat} {d:D},flat n d=true→eqD d d=true
 | _,.non,_=>rfl
 | _,.bl b,_=>by simp [eqD]
 | _,.int i,_=>by simp [eqD]
 | _,.str x,_=>by simp [eqD]
 | 0,.tup xs,h=>by simp [flat] at h
 | n + 1,.tup xs,h=>by simp only [eqD]; exact z6a (n:=n) (by simpa [flat] using h)
 | 0,.lst xs,h=>by simp [flat] at h
 | n + 1,.lst xs,h=>by simp only [eqD]; exact z6a (n:=n) (by simpa [flat] using h)
 | _,.dct xs,h=>by simp [flat] at h
theorem z6a:∀ {n:Nat} {ds:List D},z4r n ds=true→eqDs ds ds=true
 | _,[],_=>rfl
 | n,x :: xs,h=>by
  simp only [z4r,Bool.and_eq_true] at h
  simp only [eqDs]
  rw [z49 h.1,z6a h.2]
  rfl
end
abbrev NoO:Addr→Prop:=fun _=>False
theorem Rep.un {H:Hp} {O:Addr→Prop} {v:V} {d:D} (h:Rep H O v d):Rep H NoO v d:=Rep.anti h fun _ z=>z.elim
theorem RepB.un {c:Fc} {σ:St} {δ:Dl} {H:Hp} {v:V} {d:D} (h:RepB c σ δ H v d):Rep H NoO v d:=by
 rcases h with h | ⟨a,rfl,o⟩
 ·exact Rep.un h
 ·exact (o.anti (O':=NoO) fun _ z=>z.elim).rep fun z=>z
section
variable {X:Cx} {pins:List (Addr×Obj)} {σ:St} {H:Hp} {s:Shared}
theorem Inv.rdL {a:Addr} {vs:List V} (I:Inv X pins σ H s) (h:Rd H a (.lst vs)):∃ its:List Value,Vals vs its∧s.heap.IsList a its.toArray:=by
 obtain ⟨its,r,p,_⟩:=I.list (.inl h)
 exact ⟨its,r,p.isList⟩
theorem Inv.rdT {a:Addr} {vs:List V} (I:Inv X pins σ H s) (h:H a=some (.tup vs)):∃ its:List Value,Vals vs its∧s.heap.IsTuple a its.toArray:=by
 obtain ⟨its,r,p,_⟩:=I.tuple (.of h)
 exact ⟨its,r,p⟩
theorem z8x (x y:Tx):((toS x:Str) == toS y)=(x == y):=by
 rw [Bool.eq_iff_iff]
 simp only [beq_iff_eq]
 exact ⟨z8v,fun e=>by rw [e]⟩
theorem zaW (A:Around):A.in1.units=A.units + 1:=rfl
theorem Rd.inj {a:Addr} {u w:HO} (h:Rd H a u) (k:Rd H a w) (hu:∀ o z,u≠.frz o z) (hw:∀ o z,w≠.frz o z):u=w:=by
 rcases h with h | ⟨o,h⟩ <;> rcases k with k | ⟨o',k⟩
 ·rw [h] at k; exact Option.some.inj k
 ·rw [h] at k; exact absurd (Option.some.inj k) (hu _ _)
 ·rw [h] at k; exact absurd (Option.some.inj k).symm (hw _ _)
 ·rw [h] at k
  have:=Option.some.inj k
  injection this
theorem Reps.inj {vs:List V}:∀ {ds es:List D},vs.length=ds.length→vs.length=es.length→(∀ (i:Nat) v d e,vs[i]? = some v→ds[i]? = some d→es[i]? = some e→d=e)→ds=es:=by
 intro ds es h1 h2 h
 apply List.ext_getElem?
 intro i
 by_cases hi:i < vs.length
 ·have a1:i < ds.length:=by omega
  have a2:i < es.length:=by omega
  rw [List.getElem?_eq_getElem a1,List.getElem?_eq_getElem a2]
  rw [h i vs[i] ds[i] es[i] (by simp [hi]) (by simp [a1]) (by simp [a2])]
 ·rw [List.getElem?_eq_none (by omega),List.getElem?_eq_none (by omega)]
theorem Rep.inj {O:Addr→Prop} {v:V} {d:D} (h:Rep H O v d):∀ {n:Nat} {e:D},flat n d=true→flat n e=true→Rep H O v e→d=e:=by
 induction h with
 | non=>intro n e _ _ k; cases k; rfl
 | bl b=>intro n e _ _ k; cases k; rfl
 | int i=>intro n e _ _ k; cases k; rfl
 | str x =>
  intro n e _ _ k
  generalize hz:V.str (toS x)=z at k
  cases k with
  | str y=>injection hz with hz; rw [z8v hz]
  | _=>cases hz
 | @tup a vs ds h1 h2 h3 h4 ih =>
  intro n e fd fe k
  cases n with
  | zero=>simp [flat] at fd
  | succ n =>
   simp only [flat] at fd
   cases k with
   | @tup _ ws es k1 k2 k3 k4 =>
    simp only [flat] at fe
    have e1:=Rd.inj (.inl h2) (.inl k2) (fun _ _ z=>by cases z) (fun _ _ z=>by cases z)
    injection e1 with e1
    subst e1
    rw [Reps.inj h3 k3 fun i v d e q1 q2 q3=>ih i v d q1 q2 (z3d fd (List.mem_of_getElem? q2)) (z3d fe (List.mem_of_getElem? q3)) (k4 i v e q1 q3)]
   | lst k1 k2=>exact absurd (Rd.inj (.inl h2) k2 (fun _ _ z=>by cases z) (fun _ _ z=>by cases z)) (fun z=>by cases z)
   | dct k1 k2=>exact absurd (Rd.inj (.inl h2) (.inl k2) (fun _ _ z=>by cases z) (fun _ _ z=>by cases z)) (fun z=>by cases z)
 | @lst a vs ds h1 h2 h3 h4 ih =>
  intro n e fd fe k
  cases n with
  | zero=>simp [flat] at fd
  | succ n =>
   simp only [flat] at fd
   cases k with
   | @lst _ ws es k1 k2 k3 k4 =>
    simp only [flat] at fe
    have e1:=Rd.inj h2 k2 (fun _ _ z=>by cases z) (fun _ _ z=>by cases z)
    injection e1 with e1
    subst e1
    rw [Reps.inj h3 k3 fun i v d e q1 q2 q3=>ih i v d q1 q2 (z3d fd (List.mem_of_getElem? q2)) (z3d fe (List.mem_of_getElem? q3)) (k4 i v e q1 q3)]
   | tup k1 k2=>exact absurd (Rd.inj h2 (.inl k2) (fun _ _ z=>by cases z) (fun _ _ z=>by cases z)) (fun z=>by cases z)
   | dct k1 k2=>exact absurd (Rd.inj h2 (.inl k2) (fun _ _ z=>by cases z) (fun _ _ z=>by cases z)) (fun z=>by cases z)
 | dct h1 h2 h3 h4 ih =>
  intro n e fd _ _
  cases n <;> simp [flat] at fd
def EqIt (H:Hp) (s:Shared) (n:Nat):Prop:=∀ (A:Around) (x y:V) (u w:Value) (d e:D),A.units + n + 1 < cLine→flat n d=true→flat n e=true→Rep H NoO x d→Rep H NoO y e→RelV x u→RelV y w→EqAt A s u w (eqD d e)
def z8W (H:Hp) (s:Shared) (A:Around) (n:Nat):Prop:=match n with
 | 0=>True
 | m + 1=>A.units + m + 2 < cLine∧EqIt H s m
def itE (ds es:List D) (j:Nat):Bool:=match ds[j]?,es[j]? with
 | some p,some q=>eqD p q
 | _,_=>false
theorem z9h {ds es:List D} (j:Nat) (p q:D) (e1:ds[j]? = some p) (e2:es[j]? = some q):itE ds es j=eqD p q:=by unfold itE; rw [e1,e2]
theorem z5E {n:Nat} {A:Around} {vs ws:List V} {ds es:List D} {its jts:List Value} (hu:A.units + n + 2 < cLine) (ih:EqIt H s n) (r1:Vals vs its) (r2:Vals ws jts) (l1:vs.length=ds.length) (l2:ws.length=es.length)
  (g1:∀ (i:Nat) v d,vs[i]? = some v→ds[i]? = some d→Rep H NoO v d) (g2:∀ (i:Nat) v d,ws[i]? = some v→es[i]? = some d→Rep H NoO v d) (f1:z4r n ds=true) (f2:z4r n es=true) :
  ∀ j (h1:j < its.toArray.size) (h2:j < jts.toArray.size),EqAt A.in1 s its.toArray[j] jts.toArray[j] (itE ds es j):=by
 intro j h1 h2
 have e1:=r1.length
 have e2:=r2.length
 simp at h1 h2
 have hd:j < ds.length:=by omega
 have he:j < es.length:=by omega
 have hv:j < vs.length:=by omega
 have hw:j < ws.length:=by omega
 obtain ⟨u',hu',ru'⟩:=r1.get (i:=j) (x:=vs[j]) (by simp [hv])
 obtain ⟨w',hw',rw''⟩:=r2.get (i:=j) (x:=ws[j]) (by simp [hw])
 have eu:its.toArray[j]=u':=by simpa [h1] using hu'
 have ew:jts.toArray[j]=w':=by simpa [h2] using hw'
 rw [eu,ew,z9h j ds[j] es[j] (by simp [hd]) (by simp [he])]
 exact ih A.in1 vs[j] ws[j] u' w' ds[j] es[j] (by rw [zaW]; omega) (z3d f1 (List.getElem_mem hd)) (z3d f2 (List.getElem_mem he)) (g1 j _ _ (by simp [hv]) (by simp [hd])) (g2 j _ _ (by simp [hw]) (by simp [he])) ru' rw''
theorem zbn {ds es:List D} {n m:Nat} (h1:n=ds.length) (h2:m=es.length):((List.range (min n m)).all (itE ds es) && n == m)=eqDs ds es:=by
 subst h1 h2
 by_cases hl:ds.length=es.length
 ·rw [← hl,Nat.min_self,z5G hl z9h]
  simp
 ·rw [z5F hl]
  simp [hl]
theorem rcT (I:Inv X pins σ H s) (n:Nat) (A:Around) (hu0:A.units < cLine) {a b:Addr} {vs ws:List V} {ds es:List D} {its jts:List Value} (t1:s.heap.IsTuple a its.toArray) (t2:s.heap.IsTuple b jts.toArray) (r1:Vals vs its) (r2:Vals ws jts) (l1:vs.length=ds.length) (l2:ws.length=es.length)
  (g1:∀ (i:Nat) v d,vs[i]? = some v→ds[i]? = some d→Rep H NoO v d) (g2:∀ (i:Nat) v d,ws[i]? = some v→es[i]? = some d→Rep H NoO v d) (f1:flat n (.tup ds)=true) (f2:flat n (.tup es)=true) (ih:z8W H s A n) :
  RcAt A s (.ref a) (.ref b) (eqDs ds es):=by
 cases n with
 | zero=>simp [flat] at f1
 | succ n =>
  simp only [flat] at f1 f2
  obtain ⟨hu,ih⟩:=ih
  have q:=RcAt.tuples (A:=A) (s:=s) t1 t2 hu0 (z5E hu ih r1 r2 l1 l2 g1 g2 f1 f2)
  rw [zbn (by have:=r1.length; simp; omega) (by have:=r2.length; simp; omega)] at q
  exact q
theorem rnT (I:Inv X pins σ H s) (n:Nat) (A:Around) (hu0:A.units < cLine) {a b:Addr} {vs ws:List V} {ds es:List D} {its jts:List Value} (t1:s.heap.IsTuple a its.toArray) (t2:s.heap.IsTuple b jts.toArray) (r1:Vals vs its) (r2:Vals ws jts) (l1:vs.length=ds.length) (l2:ws.length=es.length)
  (g1:∀ (i:Nat) v d,vs[i]? = some v→ds[i]? = some d→Rep H NoO v d) (g2:∀ (i:Nat) v d,ws[i]? = some v→es[i]? = some d→Rep H NoO v d) (f1:flat n (.tup ds)=true) (f2:flat n (.tup es)=true) (ih:z8W H s A n) :
  RcNeAt A s (.ref a) (.ref b) (!eqDs ds es):=by
 cases n with
 | zero=>simp [flat] at f1
 | succ n =>
  simp only [flat] at f1 f2
  obtain ⟨hu,ih⟩:=ih
  have q:=RcNeAt.tuples (A:=A) (s:=s) t1 t2 hu0 (z5E hu ih r1 r2 l1 l2 g1 g2 f1 f2)
  rw [zbn (by have:=r1.length; simp; omega) (by have:=r2.length; simp; omega)] at q
  exact q
theorem rcL (I:Inv X pins σ H s) (n:Nat) (A:Around) (hu0:A.units < cLine) {a b:Addr} {vs ws:List V} {ds es:List D} {its jts:List Value} (t1:s.heap.IsList a its.toArray) (t2:s.heap.IsList b jts.toArray) (r1:Vals vs its) (r2:Vals ws jts) (l1:vs.length=ds.length) (l2:ws.length=es.length)
  (g1:∀ (i:Nat) v d,vs[i]? = some v→ds[i]? = some d→Rep H NoO v d) (g2:∀ (i:Nat) v d,ws[i]? = some v→es[i]? = some d→Rep H NoO v d) (f1:flat n (.lst ds)=true) (f2:flat n (.lst es)=true) (ih:z8W H s A n) :
  RcAt A s (.ref a) (.ref b) (eqDs ds es):=by
 cases n with
 | zero=>simp [flat] at f1
 | succ n =>
  simp only [flat] at f1 f2
  obtain ⟨hu,ih⟩:=ih
  have z1:its.toArray.size=ds.length:=by have:=r1.length; simp; omega
  have z2:jts.toArray.size=es.length:=by have:=r2.length; simp; omega
  by_cases hl:ds.length=es.length
  ·have q:=RcAt.lists (A:=A) (s:=s) t1 t2 (by rw [z1,z2]; exact hl) hu0 (z5E hu ih r1 r2 l1 l2 g1 g2 f1 f2)
   rw [z1,z5G hl z9h] at q
   exact q
  ·rw [z5F hl]
   exact RcAt.lists_lengths (A:=A) (s:=s) t1 t2 (by rw [z1,z2]; simpa using hl) hu0
theorem rnL (I:Inv X pins σ H s) (n:Nat) (A:Around) (hu0:A.units < cLine) {a b:Addr} {vs ws:List V} {ds es:List D} {its jts:List Value} (t1:s.heap.IsList a its.toArray) (t2:s.heap.IsList b jts.toArray) (r1:Vals vs its) (r2:Vals ws jts) (l1:vs.length=ds.length) (l2:ws.length=es.length)
  (g1:∀ (i:Nat) v d,vs[i]? = some v→ds[i]? = some d→Rep H NoO v d) (g2:∀ (i:Nat) v d,ws[i]? = some v→es[i]? = some d→Rep H NoO v d) (f1:flat n (.lst ds)=true) (f2:flat n (.lst es)=true) (ih:z8W H s A n) :
  RcNeAt A s (.ref a) (.ref b) (!eqDs ds es):=by
 cases n with
 | zero=>simp [flat] at f1
 | succ n =>
  simp only [flat] at f1 f2
  obtain ⟨hu,ih⟩:=ih
  have z1:its.toArray.size=ds.length:=by have:=r1.length; simp; omega
  have z2:jts.toArray.size=es.length:=by have:=r2.length; simp; omega
  by_cases hl:ds.length=es.length
  ·have q:=RcNeAt.lists (A:=A) (s:=s) t1 t2 (by rw [z1,z2]; exact hl) hu0 (z5E hu ih r1 r2 l1 l2 g1 g2 f1 f2)
   rw [z1,z5G hl z9h] at q
   exact q
  ·rw [z5F hl]
   exact RcNeAt.lists_lengths (A:=A) (s:=s) t1 t2 (by rw [z1,z2]; simpa using hl) hu0
theorem rcD (I:Inv X pins σ H s) (n:Nat) (A:Around) (x y:V) (u w:Value) (d e:D) (hu0:A.units < cLine) (fd:flat n d=true) (fe:flat n e=true) (ih:z8W H s A n) (rx:Rep H NoO x d) (ry:Rep H NoO y e) (ru:RelV x u) (rw':RelV y w):RcAt A s u w (eqD d e):=by
 cases rx with
 | non =>
  cases ru
  cases ry with
  | non =>
   cases rw'
   simp only [eqD]; exact RcAt.none_none
  | bl q =>
   cases rw'
   simp only [eqD]; exact RcAt.none_bool _
  | int q =>
   obtain ⟨t2,rfl⟩:=rw'
   simp only [eqD]; exact RcAt.none_int _ _
  | str q =>
   obtain ⟨t2,rfl⟩:=rw'
   simp only [eqD]; exact RcAt.none_str _ _
  | tup k1 k2 k3 k4 =>
   cases rw'; obtain ⟨its2,r2,t2⟩:=Inv.rdT I k2
   simp only [eqD]; exact RcAt.none_tuple t2 hu0
  | lst k1 k2 k3 k4 =>
   cases rw'; obtain ⟨its2,r2,t2⟩:=Inv.rdL I k2
   simp only [eqD]; exact RcAt.none_list t2 hu0
  | dct k1 k2 k3 k4=>(cases n <;> simp [flat] at fe)
 | bl p =>
  cases ru
  cases ry with
  | non =>
   cases rw'
   simp only [eqD]; exact RcAt.bool_none _
  | bl q =>
   cases rw'
   simp only [eqD]; exact RcAt.bool_bool _ _
  | int q =>
   obtain ⟨t2,rfl⟩:=rw'
   simp only [eqD]; exact RcAt.bool_int _ _ _
  | str q =>
   obtain ⟨t2,rfl⟩:=rw'
   simp only [eqD]; exact RcAt.bool_str _ _ _
  | tup k1 k2 k3 k4 =>
   cases rw'; obtain ⟨its2,r2,t2⟩:=Inv.rdT I k2
   simp only [eqD]; exact RcAt.bool_tuple _ t2 hu0
  | lst k1 k2 k3 k4 =>
   cases rw'; obtain ⟨its2,r2,t2⟩:=Inv.rdL I k2
   simp only [eqD]; exact RcAt.bool_list _ t2 hu0
  | dct k1 k2 k3 k4=>(cases n <;> simp [flat] at fe)
 | int p =>
  obtain ⟨t1,rfl⟩:=ru
  cases ry with
  | non =>
   cases rw'
   simp only [eqD]; exact RcAt.int_none _ _
  | bl q =>
   cases rw'
   simp only [eqD]; exact RcAt.int_bool _ _ _
  | int q =>
   obtain ⟨t2,rfl⟩:=rw'
   simp only [eqD]; exact RcAt.int_int _ _ _ _
  | str q =>
   obtain ⟨t2,rfl⟩:=rw'
   simp only [eqD]; exact RcAt.int_str _ _ _ _
  | tup k1 k2 k3 k4 =>
   cases rw'; obtain ⟨its2,r2,t2⟩:=Inv.rdT I k2
   simp only [eqD]; exact RcAt.int_tuple _ _ t2 hu0
  | lst k1 k2 k3 k4 =>
   cases rw'; obtain ⟨its2,r2,t2⟩:=Inv.rdL I k2
   simp only [eqD]; exact RcAt.int_list _ _ t2 hu0
  | dct k1 k2 k3 k4=>(cases n <;> simp [flat] at fe)
 | str p =>
  obtain ⟨t1,rfl⟩:=ru
  cases ry with
  | non =>
   cases rw'
   simp only [eqD]; exact RcAt.str_none _ _
  | bl q =>
   cases rw'
   simp only [eqD]; exact RcAt.str_bool _ _ _
  | int q =>
   obtain ⟨t2,rfl⟩:=rw'
   simp only [eqD]; exact RcAt.str_int _ _ _ _
  | str q =>
   obtain ⟨t2,rfl⟩:=rw'
   simp only [eqD]; rw [← z8x]; exact RcAt.str_str _ _ _ _
  | tup k1 k2 k3 k4 =>
   cases rw'; obtain ⟨its2,r2,t2⟩:=Inv.rdT I k2
   simp only [eqD]; exact RcAt.str_tuple _ _ t2 hu0
  | lst k1 k2 k3 k4 =>
   cases rw'; obtain ⟨its2,r2,t2⟩:=Inv.rdL I k2
   simp only [eqD]; exact RcAt.str_list _ _ t2 hu0
  | dct k1 k2 k3 k4=>(cases n <;> simp [flat] at fe)
 | tup h1 h2 h3 h4 =>
  cases ru; obtain ⟨its1,r1,t1⟩:=Inv.rdT I h2
  cases ry with
  | non =>
   cases rw'
   simp only [eqD]; exact RcAt.tuple_none t1 hu0
  | bl q =>
   cases rw'
   simp only [eqD]; exact RcAt.tuple_bool _ t1 hu0
  | int q =>
   obtain ⟨t2,rfl⟩:=rw'
   simp only [eqD]; exact RcAt.tuple_int _ _ t1 hu0
  | str q =>
   obtain ⟨t2,rfl⟩:=rw'
   simp only [eqD]; exact RcAt.tuple_str _ _ t1 hu0
  | tup k1 k2 k3 k4 =>
   cases rw'; obtain ⟨its2,r2,t2⟩:=Inv.rdT I k2
   simp only [eqD]; exact rcT I n A hu0 t1 t2 r1 r2 h3 k3 h4 k4 fd fe ih
  | lst k1 k2 k3 k4 =>
   cases rw'; obtain ⟨its2,r2,t2⟩:=Inv.rdL I k2
   simp only [eqD]; exact RcAt.tuple_list t1 t2 hu0
  | dct k1 k2 k3 k4=>(cases n <;> simp [flat] at fe)
 | lst h1 h2 h3 h4 =>
  cases ru; obtain ⟨its1,r1,t1⟩:=Inv.rdL I h2
  cases ry with
  | non =>
   cases rw'
   simp only [eqD]; exact RcAt.list_none t1 hu0
  | bl q =>
   cases rw'
   simp only [eqD]; exact RcAt.list_bool _ t1 hu0
  | int q =>
   obtain ⟨t2,rfl⟩:=rw'
   simp only [eqD]; exact RcAt.list_int _ _ t1 hu0
  | str q =>
   obtain ⟨t2,rfl⟩:=rw'
   simp only [eqD]; exact RcAt.list_str _ _ t1 hu0
  | tup k1 k2 k3 k4 =>
   cases rw'; obtain ⟨its2,r2,t2⟩:=Inv.rdT I k2
   simp only [eqD]; exact RcAt.list_tuple t1 t2 hu0
  | lst k1 k2 k3 k4 =>
   cases rw'; obtain ⟨its2,r2,t2⟩:=Inv.rdL I k2
   simp only [eqD]; exact rcL I n A hu0 t1 t2 r1 r2 h3 k3 h4 k4 fd fe ih
  | dct k1 k2 k3 k4=>(cases n <;> simp [flat] at fe)
 | dct h1 h2 h3 h4=>(cases n <;> simp [flat] at fd)
theorem rnD (I:Inv X pins σ H s) (n:Nat) (A:Around) (x y:V) (u w:Value) (d e:D) (hu0:A.units < cLine) (fd:flat n d=true) (fe:flat n e=true) (ih:z8W H s A n) (rx:Rep H NoO x d) (ry:Rep H NoO y e) (ru:RelV x u) (rw':RelV y w):RcNeAt A s u w (!eqD d e):=by
 cases rx with
 | non =>
  cases ru
  cases ry with
  | non =>
   cases rw'
   simp only [eqD]; exact RcNeAt.none_none
  | bl q =>
   cases rw'
   simp only [eqD]; exact RcNeAt.none_bool _
  | int q =>
   obtain ⟨t2,rfl⟩:=rw'
   simp only [eqD]; exact RcNeAt.none_int _ _
  | str q =>
   obtain ⟨t2,rfl⟩:=rw'
   simp only [eqD]; exact RcNeAt.none_str _ _
  | tup k1 k2 k3 k4 =>
   cases rw'; obtain ⟨its2,r2,t2⟩:=Inv.rdT I k2
   simp only [eqD]; exact RcNeAt.none_tuple t2 hu0
  | lst k1 k2 k3 k4 =>
   cases rw'; obtain ⟨its2,r2,t2⟩:=Inv.rdL I k2
   simp only [eqD]; exact RcNeAt.none_list t2 hu0
  | dct k1 k2 k3 k4=>(cases n <;> simp [flat] at fe)
 | bl p =>
  cases ru
  cases ry with
  | non =>
   cases rw'
   simp only [eqD]; exact RcNeAt.bool_none _
  | bl q =>
   cases rw'
   simp only [eqD]; exact RcNeAt.bool_bool _ _
  | int q =>
   obtain ⟨t2,rfl⟩:=rw'
   simp only [eqD]; exact RcNeAt.bool_int _ _ _
  | str q =>
   obtain ⟨t2,rfl⟩:=rw'
   simp only [eqD]; exact RcNeAt.bool_str _ _ _
  | tup k1 k2 k3 k4 =>
   cases rw'; obtain ⟨its2,r2,t2⟩:=Inv.rdT I k2
   simp only [eqD]; exact RcNeAt.bool_tuple _ t2 hu0
  | lst k1 k2 k3 k4 =>
   cases rw'; obtain ⟨its2,r2,t2⟩:=Inv.rdL I k2
   simp only [eqD]; exact RcNeAt.bool_list _ t2 hu0
  | dct k1 k2 k3 k4=>(cases n <;> simp [flat] at fe)
 | int p =>
  obtain ⟨t1,rfl⟩:=ru
  cases ry with
  | non =>
   cases rw'
   simp only [eqD]; exact RcNeAt.int_none _ _
  | bl q =>
   cases rw'
   simp only [eqD]; exact RcNeAt.int_bool _ _ _
  | int q =>
   obtain ⟨t2,rfl⟩:=rw'
   simp only [eqD]; exact RcNeAt.int_int _ _ _ _
  | str q =>
   obtain ⟨t2,rfl⟩:=rw'
   simp only [eqD]; exact RcNeAt.int_str _ _ _ _
  | tup k1 k2 k3 k4 =>
   cases rw'; obtain ⟨its2,r2,t2⟩:=Inv.rdT I k2
   simp only [eqD]; exact RcNeAt.int_tuple _ _ t2 hu0
  | lst k1 k2 k3 k4 =>
   cases rw'; obtain ⟨its2,r2,t2⟩:=Inv.rdL I k2
   simp only [eqD]; exact RcNeAt.int_list _ _ t2 hu0
  | dct k1 k2 k3 k4=>(cases n <;> simp [flat] at fe)
 | str p =>
  obtain ⟨t1,rfl⟩:=ru
  cases ry with
  | non =>
   cases rw'
   simp only [eqD]; exact RcNeAt.str_none _ _
  | bl q =>
   cases rw'
   simp only [eqD]; exact RcNeAt.str_bool _ _ _
  | int q =>
   obtain ⟨t2,rfl⟩:=rw'
   simp only [eqD]; exact RcNeAt.str_int _ _ _ _
  | str q =>
   obtain ⟨t2,rfl⟩:=rw'
   simp only [eqD]; rw [← z8x]; exact RcNeAt.str_str _ _ _ _
  | tup k1 k2 k3 k4 =>
   cases rw'; obtain ⟨its2,r2,t2⟩:=Inv.rdT I k2
   simp only [eqD]; exact RcNeAt.str_tuple _ _ t2 hu0
  | lst k1 k2 k3 k4 =>
   cases rw'; obtain ⟨its2,r2,t2⟩:=Inv.rdL I k2
   simp only [eqD]; exact RcNeAt.str_list _ _ t2 hu0
  | dct k1 k2 k3 k4=>(cases n <;> simp [flat] at fe)
 | tup h1 h2 h3 h4 =>
  cases ru; obtain ⟨its1,r1,t1⟩:=Inv.rdT I h2
  cases ry with
  | non =>
   cases rw'
   simp only [eqD]; exact RcNeAt.tuple_none t1 hu0
  | bl q =>
   cases rw'
   simp only [eqD]; exact RcNeAt.tuple_bool _ t1 hu0
  | int q =>
   obtain ⟨t2,rfl⟩:=rw'
   simp only [eqD]; exact RcNeAt.tuple_int _ _ t1 hu0
  | str q =>
   obtain ⟨t2,rfl⟩:=rw'
   simp only [eqD]; exact RcNeAt.tuple_str _ _ t1 hu0
  | tup k1 k2 k3 k4 =>
   cases rw'; obtain ⟨its2,r2,t2⟩:=Inv.rdT I k2
   simp only [eqD]; exact rnT I n A hu0 t1 t2 r1 r2 h3 k3 h4 k4 fd fe ih
  | lst k1 k2 k3 k4 =>
   cases rw'; obtain ⟨its2,r2,t2⟩:=Inv.rdL I k2
   simp only [eqD]; exact RcNeAt.tuple_list t1 t2 hu0
  | dct k1 k2 k3 k4=>(cases n <;> simp [flat] at fe)
 | lst h1 h2 h3 h4 =>
  cases ru; obtain ⟨its1,r1,t1⟩:=Inv.rdL I h2
  cases ry with
  | non =>
   cases rw'
   simp only [eqD]; exact RcNeAt.list_none t1 hu0
  | bl q =>
   cases rw'
   simp only [eqD]; exact RcNeAt.list_bool _ t1 hu0
  | int q =>
   obtain ⟨t2,rfl⟩:=rw'
   simp only [eqD]; exact RcNeAt.list_int _ _ t1 hu0
  | str q =>
   obtain ⟨t2,rfl⟩:=rw'
   simp only [eqD]; exact RcNeAt.list_str _ _ t1 hu0
  | tup k1 k2 k3 k4 =>
   cases rw'; obtain ⟨its2,r2,t2⟩:=Inv.rdT I k2
   simp only [eqD]; exact RcNeAt.list_tuple t1 t2 hu0
  | lst k1 k2 k3 k4 =>
   cases rw'; obtain ⟨its2,r2,t2⟩:=Inv.rdL I k2
   simp only [eqD]; exact rnL I n A hu0 t1 t2 r1 r2 h3 k3 h4 k4 fd fe ih
  | dct k1 k2 k3 k4=>(cases n <;> simp [flat] at fe)
 | dct h1 h2 h3 h4=>(cases n <;> simp [flat] at fd)
theorem zb1 {A:Around} {u w:Value} {k:Bool} (h:RcAt A s u w k) (hs:u=w→k=true) (hf:∀ b t,u≠Value.float b t):EqAt A s u w k:=fun prog w' E Q hq=>by
 unfold eqBool
 refine wpAny_holding ?_
 refine wpAny_ite_split (fun hab=>?_) (fun _=>?_)
 ·have e:=eq_of_beq hab
  rw [hs e] at hq
  exact wpAny_bind (wpAny_rule (wpAny_pure hq))
 ·cases u with
  | float b t=>exact absurd rfl (hf b t)
  | _=>exact wpAny_bind (h prog w' E _ (wpAny_truthy_bool hq))
theorem zaJ {x:V} {u:Value} {d:D} (r:Rep H NoO x d) (ru:RelV x u) (b:UInt64) (t:Tok):u≠Value.float b t:=by
 intro e
 subst e
 cases r <;> first | (cases ru; done) | (obtain ⟨t',e⟩:=ru; cases e)
theorem eqAtD (I:Inv X pins σ H s) (n:Nat):EqIt H s n:=by
 induction n with
 | zero =>
  intro A x y u w d e hu fd fe rx ry ru rw'
  refine zb1 (rcD I 0 A x y u w d e (by omega) fd fe trivial rx ry ru rw') (fun h=>?_) (zaJ rx ru)
  subst h
  have:=ru.inj rw'
  subst this
  rw [Rep.inj rx fd fe ry]
  exact z49 fe
 | succ n ih =>
  intro A x y u w d e hu fd fe rx ry ru rw'
  refine zb1 (rcD I (n + 1) A x y u w d e (by omega) fd fe ⟨by omega,ih⟩ rx ry ru rw') (fun h=>?_) (zaJ rx ru)
  subst h
  have:=ru.inj rw'
  subst this
  rw [Rep.inj rx fd fe ry]
  exact z49 fe
theorem zeX (I:Inv X pins σ H s) {A:Around}:∀ n:Nat,A.units + n + 1 < cLine→z8W H s A n
 | 0,_=>trivial
 | n + 1,h=>⟨by omega,eqAtD I n⟩
def rEqD:R2:=fun x y H Q=>∃ d e,Rep H NoO x d∧Rep H NoO y e∧flat 50 d=true∧flat 50 e=true∧Q (.bl (eqD d e)) H
def rNeD:R2:=fun x y H Q=>∃ d e,Rep H NoO x d∧Rep H NoO y e∧flat 50 d=true∧flat 50 e=true∧Q (.bl (!eqD d e)) H
theorem z3k (hu:X.A.units + 64 < cLine):OpR X (compareOp .Eq) rEqD:=by
 intro pins s σ H x y v u Q I rx ry h
 obtain ⟨d,e,r1,r2,f1,f2,q⟩:=h
 exact rcD I 50 X.A x y v u d e (by omega) f1 f2 (zeX I 50 (by omega)) r1 r2 rx ry X.prog X.w X.xe _ ⟨.bl _,H,I,rfl,q⟩
theorem z4g (hu:X.A.units + 64 < cLine):OpR X (compareOp .NotEq) rNeD:=by
 intro pins s σ H x y v u Q I rx ry h
 obtain ⟨d,e,r1,r2,f1,f2,q⟩:=h
 exact rnD I 50 X.A x y v u d e (by omega) f1 f2 (zeX I 50 (by omega)) r1 r2 rx ry X.prog X.w X.xe _ ⟨.bl _,H,I,rfl,q⟩
end
open PySem PySem.Spec PyProof.Rows L2
def cutL {α:Type} (xs:List α) (lo hi:Option Int):List α:=(xs.drop (HT.sIx xs.length 0 lo)).take (HT.sIx xs.length xs.length hi - HT.sIx xs.length 0 lo)
theorem zcm (xs:List V) (lo hi:Option Int):cutL xs lo hi=cutV xs lo hi:=rfl
theorem z4X {α:Type} (xs:List α) (lo hi:Option Int):(cutL xs lo hi).length≤xs.length:=by
 unfold cutL
 rw [List.length_take,List.length_drop]
 omega
theorem Reps.cut {H:Hp} {O:Addr→Prop} {vs:List V} {ds:List D} (lo hi:Option Int) (h:Reps H O vs ds):Reps H O (cutL vs lo hi) (cutL ds lo hi):=by
 unfold cutL
 rw [h.1]
 exact Reps.take _ (Reps.drop _ h)
theorem zb6 {α:Type} {xs:List α} {lo hi:Option Int} (h:HT.sIx xs.length 0 lo=0∧HT.sIx xs.length xs.length hi=xs.length):cutL xs lo hi=xs:=by
 unfold cutL
 rw [h.1,h.2]
 simp
section
variable {prog:Program} {w:World} {A:Around} {E:Value→Shared→Prop} {s:Shared}
theorem z4q {t sl:Addr} {items:Array Value} {vl vu:Value} {lo hi:Option Int} {Q:Value→Shared→Prop} (ht:IsTup s.heap t items) (hs:s.heap.IsSliceOf sl vl vu .none) (pl:IsPart vl lo) (pu:IsPart vu hi)
  (hw:HT.sIx items.size 0 lo=0∧HT.sIx items.size items.size hi=items.size) (h:Q (.ref t) s):wpAny (model prog w) A (getItem (.ref t) (.ref sl)) Q E s:=by
 obtain ⟨os,hos,hcs,hds⟩:=id hs
 have hTs:s.TypeIs (.ref sl) "slice":=⟨os,hos,hcs⟩
 unfold getItem
 try with_reducible refine wpAny_holding ?_
 first | refine wpAny_bind (wpAny_pure ?_) | skip
 refine wpAny_bind (wpAny_sequenceKey ht.typeIs (by decide) ?_)
 refine wpAny_bind (wpAny_callSpecial?_slot (name:=Str.ofString "__getitem__") ht.typeIs PyProof.Rows.slot_tuple_getitem
  (wpAny_call_entry PyProof.Rows.slot_tuple_getitem ht.typeIs entry_tuple_getitem ?_ (args_tuple_getitem _ _)))
 show wpAny _ _ (Builtin.Tuple.tupleItemsOf (.ref t) >>= _) _ _ s
 refine wpAny_bind (tupleItemsOf_ ht ?_)
 refine wpAny_bind (wpAny_typeOf hTs ?_)
 rw [if_pos (by decide)]
 refine wpAny_bind (HT.sliceApplied_gen hs pl pu ?_)
 show wpAny _ _ (if (((HT.sIx items.size 0 lo:Nat):Int) == 0 && (1:Int) == 1 && (HT.sIx items.size items.size hi - HT.sIx items.size 0 lo) == items.size)=true then _ else _) _ _ s
 rw [hw.1,hw.2]
 rw [if_pos (by simp)]
 refine wpAny_bind (m:=Builtin.Tuple.tupleIsExact (.ref t)) ?_
 unfold Builtin.Tuple.tupleIsExact
 refine wpAny_bind (wpAny_typeOf ht.typeIs (wpAny_pure ?_))
 rw [if_pos (by decide)]
 exact wpAny_bind (wpAny_rule (wpAny_bind (wpAny_pure (wpAny_pure ⟨_,rfl,wpAny_pure h⟩))))
end
section
variable {X:Cx}
def zdW (K:PySem.W.Frag):V→Option Int→Option Int→Hp→VK→Prop:=fun x lo hi H Q=>∃ a xs,x = .ref a∧SqT K H a xs ∧
 ((HT.sIx xs.length 0 lo=0∧HT.sIx xs.length xs.length hi=xs.length)→Q (.ref a) H)∧(¬ (HT.sIx xs.length 0 lo=0∧HT.sIx xs.length xs.length hi=xs.length)→∀ p,H p=none→Q (.ref p) (upd H p (.tup (cutV xs lo hi))))
theorem sl_tup2:SlR X (zdW X.K):=by
 intro pins s σ H x v vl vu lo hi sl Q I rx hs pl pu h
 obtain ⟨a,xs,rfl,hx,q1,q2⟩:=h
 by_cases hw:HT.sIx xs.length 0 lo=0∧HT.sIx xs.length xs.length hi=xs.length
 ·cases rx
  obtain ⟨its,r,ht,hz⟩:=I.tuple hx
  have hlen:its.toArray.size=xs.length:=by rw [List.size_toArray]; exact r.length.symm
  refine ⟨"tuple",_,PyProof.Rows.slot_tuple_getitem.lookup,ht.typeIs,?_⟩
  exact z4q ht hs pl pu (by rw [hlen]; exact hw) ⟨.ref a,H,I,rfl,q1 hw⟩
 ·exact sl_tup pins s σ H (.ref a) v vl vu lo hi sl Q I rx hs pl pu ⟨a,xs,rfl,hx,hw,q2 hw⟩
theorem zag (a b:Nat):sliceRange (a:Int) (b:Int) 1=(List.range (b - a)).map (fun k=>a + k):=by
 have h0:((1:Int) > 0)=True:=by simp
 unfold sliceRange
 simp only [h0,if_true]
 by_cases hlt:(a:Int) < (b:Int)
 ·rw [if_pos hlt]
  have e3:(((b:Int) - (a:Int) + 1 - 1) / 1).toNat=b - a:=by
   rw [Int.ediv_one]; omega
  rw [e3]
  refine List.map_congr_left fun k _=>?_
  omega
 ·rw [if_neg hlt]
  have:b - a=0:=by omega
  rw [this]
  rfl
theorem z6y (lo hi:Option Int) (n:Nat):Builtin.Str.strSliceIndices lo hi 1 n=(List.range (HT.sIx n n hi - HT.sIx n 0 lo)).map (fun k=>HT.sIx n 0 lo + k):=by
 have c:∀ (i:Int) (d:Nat),max 0 (min (if i < 0 then i + (n:Int) else i) (n:Int))=((HT.sIx n d (some i):Nat):Int):=by
  intro i d
  show max 0 (min (if i < 0 then i + (n:Int) else i) (n:Int))=(((if i < 0 then (i + (n:Int)).toNat else min i.toNat n):Nat):Int)
  by_cases hi:i < 0
  ·simp only [if_pos hi]; omega
  ·simp only [if_neg hi]; omega
 have h0:((1:Int) > 0)=True:=by simp
 rw [← zag]
 unfold Builtin.Str.strSliceIndices
 simp only [h0,if_true]
 cases lo with
 | none =>
  cases hi with
  | none=>rfl
  | some j=>show sliceRange 0 (max 0 (min (if j < 0 then j + (n:Int) else j) (n:Int))) 1=_; rw [c j n]; rfl
 | some i =>
  cases hi with
  | none=>show sliceRange (max 0 (min (if i < 0 then i + (n:Int) else i) (n:Int))) (n:Int) 1=_; rw [c i 0]; rfl
  | some j=>show sliceRange (max 0 (min (if i < 0 then i + (n:Int) else i) (n:Int))) (max 0 (min (if j < 0 then j + (n:Int) else j) (n:Int))) 1=_; rw [c i 0,c j n]
theorem zcy (x:Tx) (lo hi:Option Int):(⟨((Builtin.Str.strSliceIndices lo hi 1 (toS x).length).filterMap ((toS x).cps[·]?)).toArray⟩:Str)=toS (cutL x lo hi):=by
 unfold toS
 congr 1
 rw [z6y]
 have:=pick_run (x.toArray) (HT.sIx x.length 0 lo) (HT.sIx x.length x.length hi - HT.sIx x.length 0 lo)
 have hl:({ cps:=x.toArray }:Str).length=x.length:=by simp [Str.length]
 rw [hl]
 rw [this]
 rfl
def rSlS:V→Option Int→Option Int→Hp→VK→Prop:=fun x lo hi H Q=>∃ z:Tx,x = .str (toS z)∧z.length≤sizeLine∧Q (.str (toS (cutL z lo hi))) H
theorem zaA {v:Value} {o:Option Int} (p:IsPart v o):∃ q:Option (Int×Tok),v=partValue q∧q.map (·.1)=o:=by
 cases p with
 | none=>exact ⟨none,rfl,rfl⟩
 | int i t=>exact ⟨some (i,t),rfl,rfl⟩
theorem sl_str:SlR X rSlS:=by
 intro pins s σ H x v vl vu lo hi sl Q I rx hs pl pu h
 obtain ⟨z,rfl,hz,q⟩:=h
 obtain ⟨t,rfl⟩:=rx
 obtain ⟨l,rfl,el⟩:=zaA pl
 obtain ⟨u,rfl,eu⟩:=zaA pu
 obtain ⟨o,ho,hc,hd⟩:=hs
 refine ⟨"str",_,F.slot_str_getitem.lookup,typeIs_str s _ t,?_⟩
 refine wpAny_getItem_str_slice (l:=l) (u:=u) (st:=none) ⟨o,ho,hc,hd⟩ rfl ?_
 unfold sliceMade
 have e:(slicePicked (toS z) l u none)=Builtin.Str.strSliceIndices lo hi 1 (toS z).length:=by
  unfold slicePicked
  rw [el,eu]
  rfl
 rw [e]
 by_cases hw:(((none:Option (Int×Tok)).map (·.1)).getD 1 == 1 && (Builtin.Str.strSliceIndices lo hi 1 (toS z).length).length == (toS z).length)=true
 ·rw [if_pos hw]
  refine ⟨.str (toS (cutL z lo hi)),H,I,⟨t,?_⟩,q⟩
  congr 1
  rw [Bool.and_eq_true] at hw
  have hw2:=eq_of_beq hw.2
  rw [z6y,List.length_map,List.length_range,z34] at hw2
  have h1:=HT.sIx_le z.length 0 (Nat.zero_le _) lo
  have h2:=HT.sIx_le z.length z.length (Nat.le_refl _) hi
  unfold cutL
  congr 1
  by_cases h0:z.length=0
  ·have:z=[]:=List.eq_nil_of_length_eq_zero h0
   subst this
   simp
  ·have a1:HT.sIx z.length 0 lo=0:=by omega
   rw [a1] at hw2 ⊢
   rw [hw2]
   simp
 ·rw [if_neg hw]
  show Made.post (.str _) _ _
  rw [zcy]
  exact ⟨by rw [z34]; exact Nat.le_trans (z4X z lo hi) hz,.str (toS (cutL z lo hi)),H,I.tok _,⟨_,rfl⟩,q⟩
def RvR (X:Cx) (r:V→Hp→VK→Prop):Prop :=
 ∀ (pins:List (Addr×Obj)) (s:Shared) (σ:St) (H:Hp) (x:V) (v:Value) (t:Tok) (sl:Addr) (Q:VK),Inv X pins σ H s→RelV x v→s.heap.IsSliceOf sl .none .none (.int (-1) t)→r x H Q →
  ∃ T id,typeLookup (.type T) "__getitem__" = pure (some (.builtin id))∧s.TypeIs v T∧wpAny (model X.prog X.w) X.A (getItem v (.ref sl)) (EP X pins σ Q) X.xe s
theorem RvR.or {r r':V→Hp→VK→Prop} (h:RvR X r) (h':RvR X r'):RvR X (fun x H Q=>r x H Q∨r' x H Q):=by
 intro pins s σ H x v t sl Q I rx hs q
 rcases q with q | q
 ·exact h pins s σ H x v t sl Q I rx hs q
 ·exact h' pins s σ H x v t sl Q I rx hs q
theorem zei {r:V→Hp→VK→Prop} {e st:Expr} {te:TE} {p2 pos:Pos} (hr:RvR X r) (he:PE X e te) (hst:PE X st (tC (.int (-1)))):PE X (.Subscript e (.Slice none none (some st) p2) pos) (tUn r te):=by
 intro pins s σ H Q I h
 refine Subscript_ (thn (he pins s σ H _ I h) fun v s1 ⟨x,H1,I1,r1,q1⟩=>?_)
 refine wpAny_Slice ?_
 rw [evalPart_none,evalPart_some]
 refine wpAny_pure (wpAny_pure ?_)
 refine thn (hst pins s1 σ H1 (fun y H2=>y = .int (-1)∧H2=H1) I1 ⟨rfl,rfl⟩) fun u s2 ⟨y,H2,I2,r2,ey,eh⟩=>?_
 subst ey eh
 obtain ⟨t,rfl⟩:=r2
 have I4:Inv X pins σ H2 { s2 with heap:=s2.heap.push { cls:=.type "slice",data:=.fields #[.none,.none,.int (-1) t] } }:=I2.kept (t':=s2.toks) fun b ob q=>Heap.get?_push_of_some _ q
 obtain ⟨T,id,hT,ht,hg⟩:=hr pins { s2 with heap:=s2.heap.push { cls:=.type "slice",data:=.fields #[.none,.none,.int (-1) t] } } σ H2 x v t s2.heap.objs.size Q I4 r1 (Heap.IsSliceOf.new ..) q1
 show wpAny (model X.prog X.w) X.A (subscriptTail e (.Slice none none (some st) p2) v (.ref s2.heap.objs.size)) (EP X pins σ Q) X.xe { s2 with heap:=s2.heap.push { cls:=.type "slice",data:=.fields #[.none,.none,.int (-1) t] } }
 exact tail_any (ops:=[v,.ref s2.heap.objs.size]) ht hT hg (by with_unfolding_all rfl)
theorem z8b {pos pos':Pos} {j}:PE X (.UnaryOp .USub (.Constant (.int 1) j pos') pos) (tC (.int (-1))) :=
 PE.weak (zeg zc4 zcc) fun σ H Q h=>⟨1,rfl,h⟩
theorem zdi (n:Nat):Builtin.Str.strSliceIndices none none (-1) n=(List.range n).map fun k=>n - 1 - k:=by
 unfold Builtin.Str.strSliceIndices
 have h0:¬ ((-1:Int) > 0):=by decide
 simp only [h0,if_false]
 exact PySem.W.krv_sliceRange n
theorem rv_str:RvR X (fun x H Q=>∃ z:Tx,x = .str (toS z)∧z.length≤sizeLine∧Q (.str (toS z.reverse)) H):=by
 intro pins s σ H x v t sl Q I rx hs h
 obtain ⟨z,rfl,hz,q⟩:=h
 obtain ⟨t',rfl⟩:=rx
 obtain ⟨o,ho,hc,hd⟩:=hs
 refine ⟨"str",_,F.slot_str_getitem.lookup,typeIs_str s _ t',?_⟩
 refine wpAny_getItem_str_slice (l:=none) (u:=none) (st:=some (-1,t)) ⟨o,ho,hc,hd⟩ (by show ((-1:Int) == 0)=false; decide) ?_
 unfold sliceMade
 rw [if_neg (by intro h; rw [Bool.and_eq_true] at h; exact absurd (show ((-1:Int) == 1)=true from h.1) (by decide))]
 have e:(⟨((slicePicked (toS z) none none (some (-1,t))).filterMap ((toS z).cps[·]?)).toArray⟩:Str)=toS z.reverse:=by
  unfold slicePicked
  show (⟨((Builtin.Str.strSliceIndices none none (-1) (toS z).length).filterMap ((toS z).cps[·]?)).toArray⟩:Str)=_
  rw [zdi,PySem.W.krv_range,List.filterMap_reverse]
  have:(toS z).length=(toS z).cps.size:=rfl
  rw [this,PySem.W.krv_all]
  simp [toS]
 show Made.post (.str _) _ _
 rw [e]
 exact ⟨by rw [z34,List.length_reverse]; exact hz,.str (toS z.reverse),H,I.tok _,⟨_,rfl⟩,q⟩
theorem zcK:RvR X (fun x H Q=>∃ a xs,x = .ref a∧SqL X.K H a xs∧∀ p,H p=none→Q (.ref p) (upd H p (.lst xs.reverse))):=by
 intro pins s σ H x v t sl Q I rx hs h
 obtain ⟨a,xs,rfl,hx,q⟩:=h
 cases rx
 obtain ⟨its,r,ht,hz⟩:=I.list hx
 have hlen:=r.length
 refine ⟨"list",_,slot_list_getitem.lookup,ht.isList.typeIs,?_⟩
 refine wpAny_getItem_list_slice ht.isList hs .none .none (.int (-1) t) (by decide) ?_ (by rw [List.size_toArray] <;> omega)
 rw [PySem.W.krv_pick]
 exact ⟨.ref s.heap.objs.size,_,I.lnew (t':=s.toks) r.reverse (by rw [List.length_reverse]; exact hz),rfl,q _ I.fresh⟩
theorem op_catT0:OpR X (binaryOp .Add) (fun x y H Q=>∃ a b ys,x = .ref a∧y = .ref b∧SqT X.K H a []∧SqT X.K H b ys∧Q (.ref b) H):=by
 intro pins s σ H x y v u Q I rx ry h
 obtain ⟨a,b,ys,rfl,rfl,ha,hb,q⟩:=h
 cases rx
 cases ry
 obtain ⟨its,r1,p1,_⟩:=I.tuple ha
 obtain ⟨its2,r2,p2,_⟩:=I.tuple hb
 cases r1
 obtain ⟨⟨cls,dd,data,sl⟩,ho,hc,n,hd⟩:=id p1
 obtain ⟨⟨cls2,dd2,data2,sl2⟩,ho2,hc2,n2,hd2⟩:=id p2
 simp only at hc hd hc2 hd2
 subst hc hd hc2 hd2
 exact concat_meets ⟨_,ho,rfl⟩ ⟨_,ho2,rfl⟩ noFill_tuple_add seq_tuple_add PySem.F.slot_tuple_add PySem.F.entry_tuple_add (PySem.F.args_tuple_add_2 _ _)
   (tuple_addW0 a b #[] its2.toArray n n2 dd dd2 sl sl2 rfl) ⟨ho,ho2,.ref b,H,I,rfl,q⟩
def ze1 (K:PySem.W.Frag):R2:=fun x y H Q=>∃ l b xs zs,x = .ref l∧y = .ref b∧SqL K H l xs∧SqL K H b zs∧xs.length + zs.length≤sizeLine∧∀ p,H p=none→Q (.ref p) (upd H p (.lst (xs ++ zs)))
theorem zd7:OpR X (binaryOp .Add) (ze1 X.K):=by
 intro pins s σ H x y v u Q I rx ry h
 obtain ⟨l,b,xs,zs,rfl,rfl,hH,hB,hz,q⟩:=h
 cases rx
 cases ry
 obtain ⟨its,r,⟨⟨cls,dd,data,sl⟩,n,e,hc,hdd,hd⟩,z⟩:=I.list hH
 obtain ⟨its2,r2,⟨⟨cls2,dd2,data2,sl2⟩,n2,e2,hc2,hdd2,hd2⟩,z2⟩:=I.list hB
 simp only at hc hd hdd hc2 hd2 hdd2
 subst hc hd hdd hc2 hd2 hdd2
 have hl:=r.length
 have hl2:=r2.length
 refine concat_meets ⟨_,e,rfl⟩ ⟨_,e2,rfl⟩ noFill_list_add seq_list_add PySem.F.slot_list_add PySem.F.entry_list_add (PySem.F.args_list_add_2 _ _)
   (list_addW l b its.toArray its2.toArray n n2 none none sl sl2 (by rw [List.size_toArray,List.size_toArray]; omega)) ⟨e,e2,?_⟩
 have ea:its.toArray ++ its2.toArray=(its ++ its2).toArray:=by simp
 rw [ea]
 exact ⟨.ref _,_,I.lnew (t':=s.toks) (r.append r2) (by rw [List.length_append]; omega),rfl,q _ I.fresh⟩
theorem z50:∀ {ys:List Str} {us:List Value},Vals (ys.map V.str) us→StrsAre us ys
 | [],us,r=>by cases r; exact .nil
 | y :: ys,us,r=>by
  cases r with
  | cons r1 r2 =>
   obtain ⟨t,rfl⟩:=r1
   exact .cons y t (z50 r2)
def zby (K:PySem.W.Frag):V→List V→Hp→VK→Prop:=fun x vs H Q=>∃ (z:Str) (a:Addr) (ys:List Str),x = .str z∧vs=[.ref a]∧(SqL K H a (ys.map V.str)∨SqT K H a (ys.map V.str)) ∧
 (ys.map (·.length)).sum + ys.length * z.length≤16777216∧Q (.str (Txt.join z ys)) H
theorem zdc:MtR X "str.join" (zby X.K):=by
 intro pins s σ H x vs v us Q I rx rv h
 obtain ⟨z,a,ys,rfl,rfl,hq,hz,q⟩:=h
 obtain ⟨t,rfl⟩:=rx
 obtain ⟨u,rfl,ru⟩:=rv.one
 cases ru
 rcases hq with hq | hq
 ·obtain ⟨its,r,p,_⟩:=I.list hq
  exact join_list p.isList (by simpa using z50 r) hz fun t' k=>⟨.str _,H,I.tok _,⟨t',rfl⟩,q⟩
 ·obtain ⟨its,r,p,_⟩:=I.tuple hq
  exact join_tuple p (by simpa using z50 r) hz fun t' k=>⟨.str _,H,I.tok _,⟨t',rfl⟩,q⟩
theorem z8q:∀ {bs:List Bool} {us:List Value},Vals (bs.map V.bl) us→∀ (i:Nat) v,us[i]? = some v→∃ b,bs[i]? = some b∧v = .bool b
 | [],us,r,i,v,e=>by cases r; simp at e
 | b :: bs,us,r,i,v,e=>by
  cases r with
  | cons r1 r2 =>
   cases i with
   | zero =>
    simp at e
    subst e
    exact ⟨b,rfl,r1⟩
   | succ i=>exact z8q r2 i v (by simpa using e)
theorem z6H:∀ bs:List Bool,((List.range bs.length).all fun i=>(bs[i]?).getD true)=bs.all id
 | []=>rfl
 | b :: bs=>by
  rw [List.length_cons,List.range_succ_eq_map,List.all_cons,List.all_map]
  have:=z6H bs
  simp only [List.getElem?_cons_zero,Option.getD_some,List.all_cons,id]
  rw [← this]
  rfl
theorem zbY (hc:X.calm=true):CallR X (.builtin "all") (fun xs H Q=>∃ (a:Addr) (bs:List Bool),xs=[.ref a]∧SqL X.K H a (bs.map V.bl)∧Q (.bl (bs.all (fun b=>b))) H):=by
 intro pins s σ H xs us Q I r h
 obtain ⟨a,bs,rfl,hq,q⟩:=h
 obtain ⟨u,rfl,ru⟩:=z5k r
 cases ru
 obtain ⟨its,r',p,_⟩:=I.list hq
 have hl:=p.isList
 have hlt:a < s.heap.objs.size:=by obtain ⟨_,e,_⟩:=hl; exact Heap.lt_size e
 have hlen:=r'.length
 rw [List.length_map] at hlen
 refine call_all_walk (wpAny_pyIter_list hl ?_)
 refine ⟨s.heap.objs.size,[s.heap.objs.size,a],[s.heap.objs.size],its.toArray.size,_,_,fun i=>(bs[i]?).getD true,rfl,Walks.list (A:=X.A.in1) (I.ok.hd hc) _ a (Nat.ne_of_lt hlt) its.toArray,
  ⟨⟨_,Heap.get?_push_size _ rfl,rfl,rfl⟩,hl.push _⟩,fun i v s' Q' E' hP hQ=>?_,fun h' tk hk=>?_⟩
 ·obtain ⟨b,e,rfl⟩:=z8q r' i v (by simpa using hP)
  simp only [e,Option.getD_some] at hQ
  exact wpAny_truthy_bool hQ
 ·have e:((List.range its.toArray.size).all fun i=>(bs[i]?).getD true)=bs.all id:=by
   rw [List.size_toArray,← hlen]; exact z6H bs
  rw [e]
  exact ⟨.bl _,H,I.kept fun b o e=>hk b o (fun hm=>by rw [List.mem_singleton.mp hm] at e; exact Nat.lt_irrefl _ (Heap.lt_size e)) (Heap.get?_push_of_some _ e),rfl,q⟩
end
open PySem PySem.Spec PyProof.Rows L2
def p2 (p:D→D→Option S) (x y:D) (δ:Dl):Rs S:=match p x y with
 | some s=>.ok s δ
 | none=>.stuck
def eOp (p:D→D→Option S) (fa:DE) (fb:BE):DE:=fun δ=>(fa δ).bind fun x δ1=>(fb δ1).bind fun y δ2=>p2 p x.d y δ2
def eOpN (p:D→D→Option S) (i:Nat) (fb:BE):DE:=fun δ=>(fb δ).bind fun y δ1=>(bVar i δ1).bind fun x δ2=>p2 p x y δ2
def Op2 (r:R2) (p:D→D→Option S):Prop:=∀ (c:Fc) (σ:St) (δ:Dl) (H:Hp) (x y:V) (d e:D) (s:S) (Q:VK),Ok c σ δ H→RepB c σ δ H x d→RepB c σ δ H y e→p d e=some s →
 (∀ v H',Aft c σ δ H σ δ H'→RepS c σ δ H H' v s→Q v H')→r x y H Q
theorem RepB.aft {c:Fc} {σ:St} {δ δ':Dl} {H H':Hp} {v:V} {d:D} (h:Rep H (Av c σ δ) v d) (x:Aft c σ δ H σ δ' H'):RepB c σ δ' H' v d:=.inl (Rep.aft h x)
section
variable {X:Cx} {c:Fc} {a b:Expr} {fa:DE} {fb:BE} {r:R2} {p:D→D→Option S} {pos:Pos}
theorem z77 {σ:St} {δ:Dl} {H:Hp} {x y:V} {d e:D} {Q:VK} (hp:Op2 r p) (k:Ok c σ δ H) (rx:RepB c σ δ H x d) (ry:RepB c σ δ H y e)
  (h:post c (p2 p d e δ) fun s δ'=>∀ v H',Aft c σ δ H σ δ' H'→RepS c σ δ' H H' v s→Q v H'):r x y H Q:=by
 unfold p2 at h
 cases e1:p d e with
 | none=>rw [e1] at h; exact h.elim
 | some s=>rw [e1] at h; exact hp c σ δ H x y d e s Q k rx ry e1 h
theorem z79 (hp:Op2 r p) {σ:St} {H:Hp} {Q:VK} (h:tD c (eOp p fa fb) σ H Q):tOp r (tD c fa) (tB c fb) σ H Q:=by
 obtain ⟨δ,k,q⟩:=h
 refine ⟨δ,k,?_⟩
 unfold eOp at q
 rw [z0b] at q
 refine z07 q fun x δ1 q1 v H1 a1 r1=>⟨δ1,a1.ok,?_⟩
 rw [z0b] at q1
 refine z07 q1 fun y δ2 q2 u H2 a2 r2=>?_
 exact z77 hp a2.ok (.inl (Rep.aft r1.rep a2)) r2 (z07 q2 fun s δ3 q3 v' H3 a3 r3=>q3 v' H3 (a1.trans (a2.trans a3)) (RepS.back r3 (a1.trans a2)))
theorem zbI (hp:Op2 r p) {i:Nat} {σ:St} {H:Hp} {Q:VK} (h:tD c (eOpN p i fb) σ H Q) (hv:∀ δ,Ok c σ δ H→post c (fb δ) (fun _ _=>True)→∃ v,σ[i]? = some (some v)):tOp r (tVar i) (tB c fb) σ H Q:=by
 obtain ⟨δ,k,q⟩:=h
 unfold eOpN at q
 rw [z0b] at q
 obtain ⟨v,ev⟩:=hv δ k (z07 q fun _ _ _=>trivial)
 refine ⟨v,ev,δ,k,z07 q fun y δ1 q1 u H1 a1 r1=>?_⟩
 rw [z0b] at q1
 unfold bVar at q1
 cases e:δ1[i]? with
 | none=>rw [e] at q1; exact q1.elim
 | some o =>
  cases o with
  | none=>rw [e] at q1; exact q1.elim
  | some w =>
   rw [e] at q1
   have q1':post c (p2 p w.d y δ1) fun s δ'=>∀ v H',Aft c σ δ H σ δ' H'→RepS c σ δ' H H' v s→Q v H':=q1
   have rb:RepB c σ δ1 H1 v w.d:=by
    cases w with
    | pure d =>
     obtain ⟨v',e1,r⟩:=a1.ok.slot i d e
     rw [ev] at e1; cases e1
     exact .inl r
    | own d =>
     obtain ⟨a,e1,r,_⟩:=a1.ok.own i d e
     rw [ev] at e1; cases e1
     exact .inr ⟨a,rfl,r⟩
   exact z77 hp a1.ok rb r1 (z07 q1' fun s δ3 q3 v' H3 a3 r3=>q3 v' H3 (a1.trans a3) (RepS.back r3 a1))
theorem z52 {i:Nat} {σ:St} {δ:Dl} {H:Hp} (k:Ok c σ δ H) {w:S} (e:δ[i]? = some (some w)):∃ v,σ[i]? = some (some v):=by
 cases w with
 | pure d=>obtain ⟨v,e1,_⟩:=k.slot i d e; exact ⟨v,e1⟩
 | own d=>obtain ⟨a,e1,_⟩:=k.own i d e; exact ⟨_,e1⟩
end
def eOpF (p:D→D→Option S) (i:Nat) (fb:BE):DE:=fun δ=>match δ[i]? with
 | some (some _)=>eOpN p i fb δ
 | _=>.stuck
section
variable {X:Cx} {c:Fc} {a b:Expr} {fa:DE} {fb:BE} {r:R2} {p:D→D→Option S} {pos:Pos}
theorem z5D (hp:Op2 r p) {i:Nat} {σ:St} {H:Hp} {Q:VK} (h:tD c (eOpF p i fb) σ H Q):tOp r (tVar i) (tB c fb) σ H Q:=by
 obtain ⟨δ,k,q⟩:=h
 unfold eOpF at q
 cases e:δ[i]? with
 | none=>rw [e] at q; exact q.elim
 | some o =>
  cases o with
  | none=>rw [e] at q; exact q.elim
  | some w =>
   rw [e] at q
   obtain ⟨v,ev⟩:=z52 k e
   exact zbI hp (i:=i) ⟨δ,k,q⟩ fun _ _ _=>⟨v,ev⟩
theorem z0H {op:Operator} (ho:OpR X (binaryOp op) r) (hp:Op2 r p) (ha:SE X c a fa) (hb:SB X c b fb):SE X c (.BinOp a op b pos) (eOp p fa fb):=PE.weak (zej ho ha hb) fun _ _ _ h=>z79 hp h
theorem z0E {op:Operator} {i:Nat} (ho:OpR X (binaryOp op) r) (hp:Op2 r p) (ha:PE X a (tVar i)) (hb:SB X c b fb):SE X c (.BinOp a op b pos) (eOpF p i fb):=PE.weak (zej ho ha hb) fun _ _ _ h=>z5D hp h
theorem z7O {op:CmpOp} (ho:OpR X (compareOp op) r) (hp:Op2 r p) (ha:SE X c a fa) (hb:SB X c b fb) (hm:behindInMarks op b=false):SE X c (.Compare a [op] [b] pos) (eOp p fa fb):=PE.weak (zay ho ha hb hm) fun _ _ _ h=>z79 hp h
theorem z3N {op:CmpOp} {i:Nat} (ho:OpR X (compareOp op) r) (hp:Op2 r p) (ha:PE X a (tVar i)) (hb:SB X c b fb) (hm:behindInMarks op b=false):SE X c (.Compare a [op] [b] pos) (eOpF p i fb):=PE.weak (zay ho ha hb hm) fun _ _ _ h=>z5D hp h
theorem zcI (hr:IxR X r) (hp:Op2 r p) (ha:SE X c a fa) (hb:SB X c b fb) (hs:z8V b):SE X c (.Subscript a b pos) (eOp p fa fb):=PE.weak (zeo hr ha hb hs) fun _ _ _ h=>z79 hp h
theorem z0l {i:Nat} (hr:IxR X r) (hp:Op2 r p) (ha:PE X a (tVar i)) (hb:SB X c b fb) (hs:z8V b):SE X c (.Subscript a b pos) (eOpF p i fb):=PE.weak (zeo hr ha hb hs) fun _ _ _ h=>z5D hp h
end
abbrev DT:=Dl→Rs Bool
def tT (c:Fc) (f:DT):TT:=fun σ H Q=>∃ δ,Ok c σ δ H∧post c (f δ) fun b δ'=>∀ H',Aft c σ δ H σ δ' H'→Q b H'
abbrev ST (X:Cx) (c:Fc) (e:Expr) (f:DT):Prop:=PT X e (tT c f)
theorem PT.weak {X:Cx} {e:Expr} {t t':TT} (h:PT X e t) (w:∀ σ H Q,t' σ H Q→t σ H Q):PT X e t':=fun pins s σ H Q I q=>h pins s σ H Q I (w σ H Q q)
def dTr (f:DE):DT:=fun δ=>(f δ).bind fun r δ'=>match r with
 | .pure (.bl b)=>.ok b δ'
 | _=>.stuck
section
variable {X:Cx} {c:Fc} {a b:Expr} {fa f:DE} {fb:BE} {r:R2} {p:D→D→Option S} {pos:Pos}
theorem z6T {σ:St} {H:Hp} {Q:Bool→Hp→Prop} (h:tT c (dTr f) σ H Q):tD c f σ H fun x H'=>∃ k,x = .bl k∧Q k H':=by
 obtain ⟨δ,k,q⟩:=h
 refine ⟨δ,k,?_⟩
 unfold dTr at q
 rw [z0b] at q
 refine z07 q fun r δ1 q1 v H1 a1 r1=>?_
 cases r with
 | own d=>exact q1.elim
 | pure d =>
  cases d <;> first | exact q1.elim | skip
  rename_i b
  cases r1
  exact ⟨b,rfl,q1 H1 a1⟩
theorem z2w {op:CmpOp} (ho:OpR X (compareOp op) r) (hp:Op2 r p) (ha:SE X c a fa) (hb:SB X c b fb) (hm:behindInMarks op b=false):ST X c (.Compare a [op] [b] pos) (dTr (eOp p fa fb)) :=
 PT.weak (zar ho ha hb hm) fun σ H Q h=>z79 hp (z6T h)
theorem z5J {op:CmpOp} {i:Nat} (ho:OpR X (compareOp op) r) (hp:Op2 r p) (ha:PE X a (tVar i)) (hb:SB X c b fb) (hm:behindInMarks op b=false):ST X c (.Compare a [op] [b] pos) (dTr (eOpF p i fb)) :=
 PT.weak (zar ho ha hb hm) fun σ H Q h=>z5D hp (z6T h)
theorem z1G {e:Expr} (h:SE X c e f) (he:∀ whole,isTrue e X.env whole=(do let v ← whole; standAt e.pos; holding [v] (truthy v)):=by intro _; rfl):ST X c e (dTr f) :=
 PT.weak (ze9 h he) fun σ H Q h=>z6T h
def dAnd (t u:DT):DT:=fun δ=>(t δ).bind fun b δ1=>if b then u δ1 else .ok false δ1
def dOr (t u:DT):DT:=fun δ=>(t δ).bind fun b δ1=>if b then .ok true δ1 else u δ1
def dNot (t:DT):DT:=fun δ=>(t δ).bind fun b δ1=>.ok (!b) δ1
abbrev SW (X:Cx) (c:Fc) (e:Expr) (f:DT):Prop:=PW X e (tT c f)
theorem PW.weak {e:Expr} {t t':TT} (h:PW X e t) (w:∀ σ H Q,t' σ H Q→t σ H Q):PW X e t':=fun wh pins s σ H Q I q=>h wh pins s σ H Q I (w σ H Q q)
variable {t u:DT} {rest:List Expr}
theorem zcx (ha:ST X c a t):SW X c (.BoolOp .And [a] pos) t:=zcU ha
theorem z35 (ha:ST X c a t):SW X c (.BoolOp .Or [a] pos) t:=ze7 ha
theorem zdJ (ha:ST X c a t) (hb:SW X c (.BoolOp .And (b :: rest) pos) u):SW X c (.BoolOp .And (a :: b :: rest) pos) (dAnd t u):=PW.weak (ze8 ha hb) fun σ H Q ⟨δ,k,q⟩=>by
 unfold dAnd at q
 rw [z0b] at q
 refine ⟨δ,k,z07 q fun x δ1 q1 H1 a1=>?_⟩
 cases x with
 | true=>exact ⟨δ1,a1.ok,z07 q1 fun y δ2 q2 H2 a2=>q2 H2 (a1.trans a2)⟩
 | false=>exact q1 H1 a1
theorem z3v (ha:ST X c a t) (hb:SW X c (.BoolOp .Or (b :: rest) pos) u):SW X c (.BoolOp .Or (a :: b :: rest) pos) (dOr t u):=PW.weak (pw_or ha hb) fun σ H Q ⟨δ,k,q⟩=>by
 unfold dOr at q
 rw [z0b] at q
 refine ⟨δ,k,z07 q fun x δ1 q1 H1 a1=>?_⟩
 cases x with
 | false=>exact ⟨δ1,a1.ok,z07 q1 fun y δ2 q2 H2 a2=>q2 H2 (a1.trans a2)⟩
 | true=>exact q1 H1 a1
theorem z4b (h:SW X c a t):ST X c a t:=PW.pt h
theorem z1i (ha:ST X c a t):ST X c (.UnaryOp .Not a pos) (dNot t):=PT.weak (zea ha) fun σ H Q ⟨δ,k,q⟩=>by
 unfold dNot at q
 rw [z0b] at q
 exact ⟨δ,k,q⟩
def eAnd (f g:DE):DE:=fun δ=>(f δ).bind fun r δ1=>match r with
 | .pure (.bl true)=>g δ1
 | .pure (.bl false)=>.ok (.pure (.bl false)) δ1
 | _=>.stuck
def eNot (f:DE):DE:=fun δ=>(f δ).bind fun r δ1=>match r with
 | .pure (.bl b)=>.ok (.pure (.bl (!b))) δ1
 | _=>.stuck
def eIf (t:DT) (f g:DE):DE:=fun δ=>(t δ).bind fun b δ1=>if b then f δ1 else g δ1
variable {g:DE}
theorem z7L {op} (h:SE X c a f):SE X c (.BoolOp op [a] pos) f:=zek h
theorem z5L (ha:SE X c a f) (hb:SE X c (.BoolOp .And (b :: rest) pos) g):SE X c (.BoolOp .And (a :: b :: rest) pos) (eAnd f g):=PE.weak (zeq ha hb) fun σ H Q ⟨δ,k,q⟩=>by
 unfold eAnd at q
 rw [z0b] at q
 refine ⟨δ,k,z07 q fun r δ1 q1 v H1 a1 r1=>?_⟩
 cases r with
 | own d=>exact q1.elim
 | pure d =>
  cases d <;> first | exact q1.elim | skip
  rename_i b
  cases r1
  refine ⟨b,rfl,?_⟩
  cases b with
  | true=>exact ⟨δ1,a1.ok,z07 q1 fun y δ2 q2 v H2 a2 r2=>q2 v H2 (a1.trans a2) (RepS.back r2 a1)⟩
  | false=>exact q1 _ H1 a1 (.bl false)
theorem zc5 (ha:SE X c a f):SE X c (.UnaryOp .Not a pos) (eNot f):=PE.weak (zel ha) fun σ H Q ⟨δ,k,q⟩=>by
 unfold eNot at q
 rw [z0b] at q
 refine ⟨δ,k,z07 q fun r δ1 q1 v H1 a1 r1=>?_⟩
 cases r with
 | own d=>exact q1.elim
 | pure d =>
  cases d <;> first | exact q1.elim | skip
  rename_i b
  cases r1
  exact ⟨b,rfl,q1 _ H1 a1 (.bl _)⟩
def z3A (p p':D→D→Option S) (fa:DE) (fb:DE) (fc:BE):DE:=fun δ=>(fa δ).bind fun x δ1=>(fb δ1).bind fun y δ2=>(p2 p x.d y.d δ2).bind fun z δ3=>match z with
 | .pure (.bl true)=>(fc δ3).bind fun w δ4=>p2 p' y.d w δ4
 | .pure (.bl false)=>.ok (.pure (.bl false)) δ3
 | _=>.stuck
theorem z6S {r':R2} {p':D→D→Option S} {fb:DE} {fc:BE} (hp:Op2 r p) (hp':Op2 r' p') {σ:St} {H:Hp} {Q:VK} (h:tD c (z3A p p' fa fb fc) σ H Q):z9Y r r' (tD c fa) (tD c fb) (tB c fc) σ H Q:=by
 obtain ⟨δ,k,q⟩:=h
 unfold z3A at q
 rw [z0b] at q
 refine ⟨δ,k,z07 q fun x δ1 q1 v H1 a1 r1=>⟨δ1,a1.ok,?_⟩⟩
 rw [z0b] at q1
 refine z07 q1 fun y δ2 q2 u H2 a2 r2=>?_
 rw [z0b] at q2
 refine z77 hp a2.ok (.inl (Rep.aft r1.rep a2)) (.inl r2.rep) (z07 q2 fun s δ3 q3 v' H3 a3 r3=>?_)
 cases s with
 | own d=>exact q3.elim
 | pure d =>
  cases d <;> first | exact q3.elim | skip
  rename_i b
  cases r3
  refine ⟨b,rfl,?_⟩
  cases b with
  | false=>exact q3 _ H3 (a1.trans (a2.trans a3)) (.bl false)
  | true =>
   rw [if_pos rfl]
   have q3':post c ((fc δ3).bind fun w δ4=>p2 p' y.d w δ4) fun r δ'=>∀ v H',Aft c σ δ H σ δ' H'→RepS c σ δ' H H' v r→Q v H':=q3
   rw [z0b] at q3'
   refine ⟨δ3,a3.ok,z07 q3' fun w δ4 q4 v4 H4 a4 r4=>?_⟩
   exact z77 hp' a4.ok (.inl (Rep.aft r2.rep (a3.trans a4))) r4 (z07 q4 fun s5 δ5 q5 v5 H5 a5 r5=>q5 v5 H5 (a1.trans (a2.trans (a3.trans (a4.trans a5)))) (RepS.back r5 (a1.trans (a2.trans (a3.trans a4)))))
theorem zbv {op op':CmpOp} {r':R2} {p':D→D→Option S} {e:Expr} {fb:DE} {fc:BE} (ho:OpR X (compareOp op) r) (ho':OpR X (compareOp op') r') (hp:Op2 r p) (hp':Op2 r' p') (ha:SE X c a fa) (hb:SE X c b fb) (he:SB X c e fc)
  (hm:lastMarks [op,op'] [b,e]=false:=by with_unfolding_all rfl):SE X c (.Compare a [op,op'] [b,e] pos) (z3A p p' fa fb fc):=PE.weak (zbG ho ho' ha hb he hm) fun _ _ _ h=>z6S hp hp' h
theorem z5z {op op':CmpOp} {r':R2} {p':D→D→Option S} {e:Expr} {fb:DE} {fc:BE} (ho:OpR X (compareOp op) r) (ho':OpR X (compareOp op') r') (hp:Op2 r p) (hp':Op2 r' p') (ha:SE X c a fa) (hb:SE X c b fb) (he:SB X c e fc)
  (hm:lastMarks [op,op'] [b,e]=false:=by with_unfolding_all rfl):ST X c (.Compare a [op,op'] [b,e] pos) (dTr (z3A p p' fa fb fc)):=PT.weak (zbA ho ho' ha hb he hm) fun _ _ _ h=>z6S hp hp' (z6T h)
end
open PySem PySem.Spec PyProof.Rows L2
section
variable {c:Fc} {σ:St} {δ:Dl} {H:Hp} {x:V}
theorem RepB.int {i:Int} (h:RepB c σ δ H x (.int i)):x = .int i:=by
 rcases h with h | ⟨_,_,h⟩
 ·cases h; rfl
 ·exact h.elim
theorem RepB.bl {b:Bool} (h:RepB c σ δ H x (.bl b)):x = .bl b:=by
 rcases h with h | ⟨_,_,h⟩
 ·cases h; rfl
 ·exact h.elim
theorem RepB.non (h:RepB c σ δ H x .non):x = .non:=by
 rcases h with h | ⟨_,_,h⟩
 ·cases h; rfl
 ·exact h.elim
theorem RepB.str {z:Tx} (h:RepB c σ δ H x (.str z)):x = .str (toS z):=by
 rcases h with h | ⟨_,_,h⟩
 ·cases h; rfl
 ·exact h.elim
theorem RepB.tup {ds:List D} (h:RepB c σ δ H x (.tup ds)):∃ a vs,x = .ref a∧H a=some (.tup vs)∧Reps H (Av c σ δ) vs ds:=by
 rcases h with h | ⟨_,_,h⟩
 ·cases h with
  | tup h1 h2 h3 h4=>exact ⟨_,_,rfl,h2,h3,h4⟩
 ·exact h.elim
theorem RepB.lst {ds:List D} (h:RepB c σ δ H x (.lst ds)):∃ a vs,x = .ref a∧Rd H a (.lst vs)∧Reps H (Av c σ δ) vs ds:=by
 rcases h with h | ⟨a,e,h⟩
 ·cases h with
  | lst h1 h2 h3 h4=>exact ⟨_,_,rfl,h2,h3,h4⟩
 ·obtain ⟨vs,h1,h2⟩:=h
  exact ⟨a,vs,e,.inl h1,h2⟩
theorem RepB.dct {ds:List (DKey×D)} (h:RepB c σ δ H x (.dct ds)):∃ a ws,x = .ref a∧H a=some (.dK ws)∧ws.map (·.1)=ds.map (fun p=>kOf p.1)∧∀ (i:Nat) p q,ws[i]? = some p→ds[i]? = some q→Rep H (Av c σ δ) p.2 q.2:=by
 rcases h with h | ⟨a,e,h⟩
 ·cases h with
  | dct h1 h2 h3 h4=>exact ⟨_,_,rfl,h2,h3,h4⟩
 ·obtain ⟨ws,h1,h2,h3⟩:=h
  exact ⟨a,ws,e,h1,h2,h3⟩
end
theorem z6x {z:Tx} (h:z.length≤sizeLine):(toS z).length≤sizeLine:=by rw [z34]; exact h
theorem zct (x y:Tx):toS x ++ toS y=toS (x ++ y):=by
 show Str.append (toS x) (toS y)=_
 simp [toS,Str.append]
def pAdd:D→D→Option S
 | .int i,.int j=>some (.pure (.int (i + j)))
 | .str x,.str y=>if x.length + y.length≤sizeLine then some (.pure (.str (x ++ y))) else none
 | .tup xs,.tup ys=>if xs.length + ys.length≤sizeLine then some (.pure (.tup (xs ++ ys))) else none
 | .lst xs,.lst ys=>if xs.length + ys.length≤sizeLine then some (.own (.lst (xs ++ ys))) else none
 | _,_=>none
def ze2 (K:PySem.W.Frag):R2:=fun x y H Q=>rI0 (fun i j=>V.int (i + j)) x y H Q∨(∃ i j,x = .str i∧y = .str j∧i.length + j.length≤sizeLine∧Q (.str (i ++ j)) H) ∨
 (∃ a b ys,x = .ref a∧y = .ref b∧SqT K H a []∧SqT K H b ys∧Q (.ref b) H)∨ze0 K x y H Q∨ze1 K x y H Q
theorem z0m {X:Cx}:OpR X (binaryOp .Add) (ze2 X.K):=op_add.or (op_add_str.or (op_catT0.or (op_catT.or zd7)))
theorem z0w {K:PySem.W.Frag}:Op2 (ze2 K) pAdd:=by
 intro c σ δ H x y d e s Q k rx ry hp q
 cases d <;> cases e <;> first
  | (simp [pAdd] at hp; done)
  | skip
 ·rename_i i j
  simp only [pAdd,Option.some.injEq] at hp
  subst hp
  exact .inl ⟨i,j,rx.int,ry.int,q _ H (.refl k) (.int _)⟩
 ·rename_i u w
  simp only [pAdd] at hp
  split at hp
  ·rename_i hz
   simp only [Option.some.injEq] at hp
   subst hp
   refine .inr (.inl ⟨toS u,toS w,rx.str,ry.str,by rw [z34,z34]; exact hz,?_⟩)
   rw [zct]
   exact q _ H (.refl k) (.str _)
  ·cases hp
 ·rename_i us ws
  simp only [pAdd] at hp
  split at hp
  ·rename_i hz
   simp only [Option.some.injEq] at hp
   subst hp
   obtain ⟨a,vs,ea,ha,ra⟩:=rx.tup
   obtain ⟨b,zs,eb,hb,rb⟩:=ry.tup
   cases vs with
   | nil =>
    have:us=[]:=by have:=ra.1; simpa using this.symm
    subst this
    refine .inr (.inr (.inl ⟨a,b,zs,ea,eb,.of ha,.of hb,?_⟩))
    rw [eb] at ry
    rcases ry with ry | ⟨_,_,ry⟩
    ·exact q _ H (.refl k) ry
    ·exact ry.elim
   | cons v0 vr =>
    refine .inr (.inr (.inr (.inl ⟨a,b,_,zs,ea,eb,.of ha,.of hb,by simp,by rw [ra.1,rb.1]; exact hz,fun e0=>?_,fun _ p hp=>?_⟩)))
    ·subst e0
     have:ws=[]:=by have:=rb.1; simpa using this.symm
     subst this
     rw [ea] at rx
     rcases rx with rx | ⟨_,_,rx⟩
     ·rw [List.append_nil] at q
      exact q _ H (.refl k) rx
     ·exact rx.elim
    ·exact q _ _ (.alloc k hp _) (RepS.newT k (ra.append rb) hp)
  ·cases hp
 ·rename_i us ws
  simp only [pAdd] at hp
  split at hp
  ·rename_i hz
   simp only [Option.some.injEq] at hp
   subst hp
   obtain ⟨a,vs,ea,ha,ra⟩:=rx.lst
   obtain ⟨b,zs,eb,hb,rb⟩:=ry.lst
   exact .inr (.inr (.inr (.inr ⟨a,b,vs,zs,ea,eb,.inl ha,.inl hb,by rw [ra.1,rb.1]; exact hz,fun p hp=>q _ _ (.alloc k hp _) (RepS.newL k (ra.append rb) hp)⟩)))
  ·cases hp
def pII (C:Int→Int→Bool) (g:Int→Int→D):D→D→Option S
 | .int i,.int j=>if C i j then some (.pure (g i j)) else none
 | _,_=>none
theorem zaH {C:Int→Int→Prop} {C':Int→Int→Bool} {g:Int→Int→V} {g':Int→Int→D} (hC:∀ i j,C' i j=true→C i j) (hg:∀ i j H O,Rep H O (g i j) (g' i j)):Op2 (rI C g) (pII C' g'):=by
 intro c σ δ H x y d e s Q k rx ry hp q
 cases d <;> cases e <;> first
  | (simp [pII] at hp; done)
  | skip
 rename_i i j
 simp only [pII] at hp
 split at hp
 ·rename_i hc
  simp only [Option.some.injEq] at hp
  subst hp
  exact ⟨i,j,rx.int,ry.int,hC i j hc,q _ H (.refl k) (hg i j H _)⟩
 ·cases hp
theorem zey {g:Int→Int→V} {g':Int→Int→D} (hg:∀ i j H O,Rep H O (g i j) (g' i j)):Op2 (rI0 g) (pII (fun _ _=>true) g'):=by
 intro c σ δ H x y d e s Q k rx ry hp q
 cases d <;> cases e <;> first
  | (simp [pII] at hp; done)
  | skip
 rename_i i j
 simp only [pII,if_true,Option.some.injEq] at hp
 subst hp
 exact ⟨i,j,rx.int,ry.int,q _ H (.refl k) (hg i j H _)⟩
def pSub:=pII (fun _ _=>true) fun i j=>.int (i - j)
theorem z1S:Op2 (rI0 fun i j=>V.int (i - j)) pSub:=zey fun _ _ _ _=>.int _
def cMul (i j:Int):Bool:=(decide (-(2 ^ 64) < i) && decide (i < 2 ^ 64)) || (decide (-(2 ^ 64) < j) && decide (j < 2 ^ 64))
def pMul:=pII cMul fun i j=>.int (i * j)
theorem zew:Op2 (rI CMul fun i j=>V.int (i * j)) pMul:=zaH (fun i j h=>by
 unfold cMul at h
 simp only [Bool.or_eq_true,Bool.and_eq_true,decide_eq_true_eq] at h
 exact h) fun _ _ _ _=>.int _
def cDiv (_ j:Int):Bool:=decide (0 < j) && decide (j < 1073741824)
def pDiv:=pII cDiv fun i j=>.int (i / j)
theorem z5Z:Op2 (rI CDiv fun i j=>V.int (i / j)) pDiv:=zaH (fun i j h=>by
 unfold cDiv at h
 simp only [Bool.and_eq_true,decide_eq_true_eq] at h
 exact h) fun _ _ _ _=>.int _
def pMod:=pII (fun _ j=>decide (0 < j)) fun i j=>.int (i % j)
theorem z88:Op2 (rI (fun _ j=>0 < j) fun i j=>V.int (i % j)) pMod:=zaH (fun i j h=>by simpa using h) fun _ _ _ _=>.int _
def cPow (i j:Int):Bool:=decide (0≤j) && decide (j≤1000000) && decide (i.natAbs < 2 ^ 64)
def pPow:=pII cPow fun i j=>.int (i ^ j.toNat)
theorem zev:Op2 (rI CPow fun i j=>V.int (i ^ j.toNat)) pPow:=zaH (fun i j h=>by
 unfold cPow at h
 simp only [Bool.and_eq_true,decide_eq_true_eq] at h
 exact ⟨h.1.1,h.1.2,h.2⟩) fun _ _ _ _=>.int _
def pEq (d e:D):Option S:=if flat 50 d && flat 50 e then some (.pure (.bl (eqD d e))) else none
def pNe (d e:D):Option S:=if flat 50 d && flat 50 e then some (.pure (.bl (!eqD d e))) else none
theorem z4O:Op2 rEqD pEq:=by
 intro c σ δ H x y d e s Q k rx ry hp q
 unfold pEq at hp
 split at hp
 ·rename_i hf
  rw [Bool.and_eq_true] at hf
  simp only [Option.some.injEq] at hp
  subst hp
  exact ⟨d,e,rx.un,ry.un,hf.1,hf.2,q _ H (.refl k) (.bl _)⟩
 ·cases hp
theorem z6o:Op2 rNeD pNe:=by
 intro c σ δ H x y d e s Q k rx ry hp q
 unfold pNe at hp
 split at hp
 ·rename_i hf
  rw [Bool.and_eq_true] at hf
  simp only [Option.some.injEq] at hp
  subst hp
  exact ⟨d,e,rx.un,ry.un,hf.1,hf.2,q _ H (.refl k) (.bl _)⟩
 ·cases hp
def pCmp (f:Int→Int→Bool) (g:Tx→Tx→Bool):D→D→Option S
 | .int i,.int j=>some (.pure (.bl (f i j)))
 | .str x,.str y=>some (.pure (.bl (g x y)))
 | _,_=>none
def rCmp (f:Int→Int→Bool) (g:List Nat→List Nat→Bool):R2:=fun x y H Q=>rI0 (fun i j=>V.bl (f i j)) x y H Q∨∃ i j,x = .str i∧y = .str j∧Q (.bl (g i.cps.toList j.cps.toList)) H
theorem z3l {f:Int→Int→Bool} {g:Tx→Tx→Bool}:Op2 (rCmp f g) (pCmp f g):=by
 intro c σ δ H x y d e s Q k rx ry hp q
 cases d <;> cases e <;> first
  | (simp [pCmp] at hp; done)
  | skip
 ·rename_i i j
  simp only [pCmp,Option.some.injEq] at hp
  subst hp
  exact .inl ⟨i,j,rx.int,ry.int,q _ H (.refl k) (.bl _)⟩
 ·rename_i i j
  simp only [pCmp,Option.some.injEq] at hp
  subst hp
  refine .inr ⟨toS i,toS j,rx.str,ry.str,?_⟩
  rw [z8w,z8w]
  exact q _ H (.refl k) (.bl _)
theorem z8I {X:Cx} {op:CmpOp} {g:List Nat→List Nat→Bool} (rule:∀ (i j:Str) (t u:Tok) (Q:Value→Shared→Prop) (s:Shared),Q (.bool (g i.cps.toList j.cps.toList)) s→wpAny (model X.prog X.w) X.A (compareOp op (.str i t) (.str j u)) Q X.xe s) :
  OpR X (compareOp op) (fun x y H Q=>∃ i j,x = .str i∧y = .str j∧Q (.bl (g i.cps.toList j.cps.toList)) H):=by
 intro pins s σ H x y v u Q I rx ry h
 obtain ⟨i,j,rfl,rfl,q⟩:=h
 obtain ⟨t,rfl⟩:=rx
 obtain ⟨t',rfl⟩:=ry
 exact rule i j t t' _ s ⟨.bl _,H,I,rfl,q⟩
def pLt:=pCmp (fun i j=>decide (i < j)) fun x y=>decide (x < y)
theorem z81 {X:Cx}:OpR X (compareOp .Lt) (rCmp (fun i j=>decide (i < j)) fun x y=>decide (x < y)):=op_lt.or zaD
theorem zaG:Op2 (rCmp (fun i j=>decide (i < j)) fun x y=>decide (x < y)) pLt:=z3l
def pIx:D→D→Option S
 | .lst ds,.int i=>(atI ds i).map .pure
 | .tup ds,.int i=>(atI ds i).map .pure
 | .str x,.int i=>if x.length≤sizeLine then (atI x i).map fun n=>.pure (.str [n]) else none
 | _,_=>none
theorem z94 {H:Hp} {O:Addr→Prop} {vs:List V} {ds:List D} {i:Int} {d:D} (r:Reps H O vs ds) (h:atI ds i=some d):∃ v,atI vs i=some v∧Rep H O v d:=by
 unfold atI at h ⊢
 rw [r.1]
 cases e:ixN ds.length i with
 | none=>rw [e] at h; cases h
 | some j =>
  rw [e] at h
  exact r.get h
theorem z0A {K:PySem.W.Frag}:Op2 (rIx K) pIx:=by
 intro c σ δ H x y d e s Q k rx ry hp q
 cases d <;> cases e <;> first
  | (simp [pIx] at hp; done)
  | skip
 ·rename_i z i
  simp only [pIx] at hp
  split at hp
  ·rename_i hz
   cases e1:atI z i with
   | none=>rw [e1] at hp; cases hp
   | some n =>
    rw [e1] at hp
    simp only [Option.map_some,Option.some.injEq] at hp
    subst hp
    refine .inr (.inr ⟨toS z,i,n,rx.str,ry.int,z6x hz,by rw [z8w]; exact e1,?_⟩)
    exact q (.str (toS [n])) H (.refl k) (.str [n])
  ·cases hp
 ·rename_i ds i
  simp only [pIx] at hp
  cases e1:atI ds i with
  | none=>rw [e1] at hp; cases hp
  | some n =>
   rw [e1] at hp
   simp only [Option.map_some,Option.some.injEq] at hp
   subst hp
   obtain ⟨a,vs,ea,ha,ra⟩:=rx.tup
   obtain ⟨v,e2,r2⟩:=z94 ra e1
   exact .inr (.inl ⟨a,vs,i,v,ea,ry.int,.of ha,e2,q v H (.refl k) r2⟩)
 ·rename_i ds i
  simp only [pIx] at hp
  cases e1:atI ds i with
  | none=>rw [e1] at hp; cases hp
  | some n =>
   rw [e1] at hp
   simp only [Option.map_some,Option.some.injEq] at hp
   subst hp
   obtain ⟨a,vs,ea,ha,ra⟩:=rx.lst
   obtain ⟨v,e2,r2⟩:=z94 ra e1
   exact .inl ⟨a,vs,i,v,ea,ry.int,.inl ha,e2,q v H (.refl k) r2⟩
open PySem PySem.Spec PyProof.Rows L2
def pLe:=pCmp (fun i j=>decide (i≤j)) fun x y=>!decide (y < x)
def pGt:=pCmp (fun i j=>decide (j < i)) fun x y=>decide (y < x)
def pGe:=pCmp (fun i j=>decide (j≤i)) fun x y=>!decide (x < y)
theorem z4h {X:Cx}:OpR X (compareOp .LtE) (rCmp (fun i j=>decide (i≤j)) fun x y=>!decide (y < x)):=op_le.or (z8I (g:=fun x y=>!decide (y < x)) fun _ _ _ _ _ _ h=>PySem.P.le_str h)
theorem zcd {X:Cx}:OpR X (compareOp .Gt) (rCmp (fun i j=>decide (j < i)) fun x y=>decide (y < x)):=op_gt.or (z8I (g:=fun x y=>decide (y < x)) fun _ _ _ _ _ _ h=>PySem.P.gt_str h)
theorem zet {X:Cx}:OpR X (compareOp .GtE) (rCmp (fun i j=>decide (j≤i)) fun x y=>!decide (x < y)):=op_ge.or (z8I (g:=fun x y=>!decide (x < y)) fun _ _ _ _ _ _ h=>PySem.P.ge_str h)
abbrev DA:=Dl→Rs (List D)
def tAD (c:Fc) (f:DA):TA:=fun σ H Q=>∃ δ,Ok c σ δ H∧post c (f δ) fun ds δ'=>∀ vs H',Aft c σ δ H σ δ' H'→Reps H' (Av c σ δ') vs ds→Q vs H'
structure SA (X:Cx) (c:Fc) (es:List Expr) (f:DA):Prop where
 pa:PA X es (tAD c f)
 len:∀ δ ds δ',f δ = .ok ds δ'→ds.length=es.length
theorem PA.weak {X:Cx} {es:List Expr} {t t':TA} (h:PA X es t) (w:∀ σ H Q,t' σ H Q→t σ H Q):PA X es t':=fun pos pins s σ H Q I q=>h pos pins s σ H Q I (w σ H Q q)
def aNil:DA:=fun δ=>.ok [] δ
def z09 (f:DE) (g:DA):DA:=fun δ=>(f δ).bind fun x δ1=>(g δ1).bind fun xs δ2=>.ok (x.d :: xs) δ2
section
variable {X:Cx} {c:Fc} {e:Expr} {es:List Expr} {f:DE} {g:DA} {pos:Pos}
theorem z0s:SA X c [] aNil:=⟨PA.weak z4f fun σ H Q ⟨δ,k,q⟩=>q [] H (.refl k) .nil,fun δ ds δ' h=>by cases h; rfl⟩
theorem zab (ha:SE X c e f) (hr:SA X c es g) (hs:starEach (e :: es) X.env=(false,eval e X.env) :: starEach es X.env:=by rfl):SA X c (e :: es) (z09 f g):=by
 refine ⟨PA.weak (z2s ha hr.pa hs) fun σ H Q ⟨δ,k,q⟩=>?_,fun δ ds δ' h=>?_⟩
 ·unfold z09 at q
  rw [z0b] at q
  refine ⟨δ,k,z07 q fun x δ1 q1 v H1 a1 r1=>⟨δ1,a1.ok,?_⟩⟩
  rw [z0b] at q1
  exact z07 q1 fun xs δ2 q2 vs H2 a2 r2=>q2 (v :: vs) H2 (a1.trans a2) (.cons (Rep.aft r1.rep a2) r2)
 ·unfold z09 at h
  cases h1:f δ with
  | ok x δ1 =>
   rw [h1] at h
   cases h2:g δ1 with
   | ok xs δ2 =>
    simp only [Rs.bind,h2] at h
    cases h
    simp [hr.len _ _ _ h2]
   | exc x δx=>simp only [Rs.bind,h2] at h; cases h
   | stuck=>simp only [Rs.bind,h2] at h; cases h
  | exc x δx=>rw [h1] at h; cases h
  | stuck=>rw [h1] at h; cases h
def eTup (f:DA):DE:=fun δ=>(f δ).bind fun ds δ'=>.ok (.pure (.tup ds)) δ'
def eLst (f:DA):DE:=fun δ=>(f δ).bind fun ds δ'=>.ok (.own (.lst ds)) δ'
theorem z6A {n:Nat} (h:n≤1000):n≤sizeLine:=Nat.le_of_lt (za3 h)
theorem z7X {α:Type} {c:Fc} {r:Rs α} {k:α→Dl→Prop} (h:post c r k):post c r fun a δ=>r = .ok a δ∧k a δ:=by
 cases r with
 | ok a δ=>exact ⟨rfl,h⟩
 | exc x δx=>exact h
 | stuck=>exact h
theorem z0G {x1} (h:SA X c es g) (hz:es.length≤1000:=by decide):SE X c (.Tuple es x1 pos) (eTup g):=PE.weak (zeh h.pa) fun σ H Q ⟨δ,k,q⟩=>by
 unfold eTup at q
 rw [z0b] at q
 refine ⟨δ,k,z07 (z7X q) fun ds δ1 ⟨e1,q1⟩ vs H1 a1 r1=>?_⟩
 have hl:=h.len _ _ _ e1
 exact ⟨by rw [r1.1,hl]; exact z6A hz,fun p hp=>q1 _ _ (a1.trans (.alloc a1.ok hp _)) (RepS.back (RepS.newT a1.ok r1 hp) a1)⟩
theorem z2Z (h:SA X c es g) (hz:es.length≤1000:=by decide):SE X c (.List es pos) (eLst g):=PE.weak (zen h.pa) fun σ H Q ⟨δ,k,q⟩=>by
 unfold eLst at q
 rw [z0b] at q
 refine ⟨δ,k,z07 (z7X q) fun ds δ1 ⟨e1,q1⟩ vs H1 a1 r1=>?_⟩
 have hl:=h.len _ _ _ e1
 exact ⟨by rw [r1.1,hl]; exact z6A hz,fun p hp=>q1 _ _ (a1.trans (.alloc a1.ok hp _)) (RepS.back (RepS.newL a1.ok r1 hp) a1)⟩
end
def p1 (p:D→Option S) (x:D) (δ:Dl):Rs S:=match p x with
 | some s=>.ok s δ
 | none=>.stuck
def eC1 (p:D→Option S) (fb:BE):DE:=fun δ=>(fb δ).bind fun x δ1=>p1 p x δ1
def Op1 (r:V→Hp→VK→Prop) (p:D→Option S):Prop:=∀ (c:Fc) (σ:St) (δ:Dl) (H:Hp) (x:V) (d:D) (s:S) (Q:VK),Ok c σ δ H→RepB c σ δ H x d→p d=some s →
 (∀ v H',Aft c σ δ H σ δ H'→RepS c σ δ H H' v s→Q v H')→r x H Q
section
variable {X:Cx} {c:Fc} {e:Expr} {fb:BE} {r:V→Hp→VK→Prop} {p:D→Option S} {x:Str} {id T:String} {pp pos:Pos}
theorem z8H {σ:St} {δ:Dl} {H:Hp} {v:V} {d:D} {Q:VK} (hp:Op1 r p) (k:Ok c σ δ H) (rx:RepB c σ δ H v d)
  (h:post c (p1 p d δ) fun s δ'=>∀ v H',Aft c σ δ H σ δ' H'→RepS c σ δ' H H' v s→Q v H'):r v H Q:=by
 unfold p1 at h
 cases e1:p d with
 | none=>rw [e1] at h; exact h.elim
 | some s=>rw [e1] at h; exact hp c σ δ H v d s Q k rx e1 h
theorem z5H (hp:Op1 r p) {σ:St} {H:Hp} {Q:VK} (h:tD c (eC1 p fb) σ H Q):tUn r (tB c fb) σ H Q:=by
 obtain ⟨δ,k,q⟩:=h
 unfold eC1 at q
 rw [z0b] at q
 exact ⟨δ,k,z07 q fun y δ1 q1 v H1 a1 r1=>z8H hp a1.ok r1 (z07 q1 fun s δ2 q2 w H2 a2 r2=>q2 w H2 (a1.trans a2) (RepS.back r2 a1))⟩
theorem z5A {rl:List V→Hp→VK→Prop} (hc:CallR X (.builtin id) rl) (hl:∀ v H Q,r v H Q→rl [v] H Q) (hp:Op1 r p) (hg:Gl X x) (hm:X.mg x=none) (hv:bootBuiltins x=some (.builtin id)) (he:SB X c e fb)
  (hn:x≠"__name__":=by decide) (hdb:(x == ("__debug__" : Str))=false:=by decide) (hs:starEach [e] X.env=(false,eval e X.env) :: starEach [] X.env:=by rfl) (hpl:(backTo pos (starEach [] X.env)).any (·.1)=false:=by rfl) :
  SE X c (.Call (.Name x pp) [e] [] pos) (eC1 p fb):=PE.weak (z5B hc hg hm hv (z2s he z4f hs) hn hdb hs hpl) fun σ H Q h=>by
 obtain ⟨δ,k,q⟩:=z5H hp h
 exact ⟨δ,k,z07 q fun y δ1 q1 v H1 a1 r1=>hl _ _ _ (q1 v H1 a1 r1)⟩
theorem z4F {rl:List V→Hp→VK→Prop} (hc:CallR X (.type T) rl) (hl:∀ v H Q,r v H Q→rl [v] H Q) (hp:Op1 r p) (hg:Gl X x) (hm:X.mg x=none) (hv:bootBuiltins x=some (.type T)) (he:SB X c e fb)
  (hn:x≠"__name__":=by decide) (hdb:(x == ("__debug__" : Str))=false:=by decide) (hs:starEach [e] X.env=(false,eval e X.env) :: starEach [] X.env:=by rfl) (hpl:(backTo pos (starEach [] X.env)).any (·.1)=false:=by rfl) :
  SE X c (.Call (.Name x pp) [e] [] pos) (eC1 p fb):=PE.weak (zaz hc hg hm hv (z2s he z4f hs) hn hdb hs hpl) fun σ H Q h=>by
 obtain ⟨δ,k,q⟩:=z5H hp h
 exact ⟨δ,k,z07 q fun y δ1 q1 v H1 a1 r1=>hl _ _ _ (q1 v H1 a1 r1)⟩
def pLen:D→Option S
 | .lst ds=>some (.pure (.int ds.length))
 | .tup ds=>some (.pure (.int ds.length))
 | .str z=>if z.length≤sizeLine then some (.pure (.int z.length)) else none
 | .dct ds=>some (.pure (.int ds.length))
 | _=>none
def rLen (K:PySem.W.Frag):V→Hp→VK→Prop:=fun v H Q=>((∃ p ys,v = .ref p∧(SqL K H p ys∨SqT K H p ys)∧Q (.int ys.length) H)∨∃ z,v = .str z∧z.length≤sizeLine∧Q (.int z.length) H)∨∃ a kvs,v=V.ref a∧H a=some (.dK kvs)∧Q (.int kvs.length) H
theorem zeA {K:PySem.W.Frag}:Op1 (rLen K) pLen:=by
 intro c σ δ H x d s Q k rx hp q
 cases d with
 | lst ds =>
  simp only [pLen,Option.some.injEq] at hp
  subst hp
  obtain ⟨a,vs,ea,ha,ra⟩:=rx.lst
  exact .inl (.inl ⟨a,vs,ea,.inl (.inl ha),by rw [ra.1]; exact q _ H (.refl k) (.int _)⟩)
 | tup ds =>
  simp only [pLen,Option.some.injEq] at hp
  subst hp
  obtain ⟨a,vs,ea,ha,ra⟩:=rx.tup
  exact .inl (.inl ⟨a,vs,ea,.inr (.of ha),by rw [ra.1]; exact q _ H (.refl k) (.int _)⟩)
 | str z =>
  simp only [pLen] at hp
  split at hp
  ·rename_i hz
   simp only [Option.some.injEq] at hp
   subst hp
   exact .inl (.inr ⟨toS z,rx.str,z6x hz,by rw [z34]; exact q _ H (.refl k) (.int _)⟩)
  ·cases hp
 | dct ds =>
  simp only [pLen,Option.some.injEq] at hp
  subst hp
  obtain ⟨a,ws,ea,ha,h1,h2⟩:=rx.dct
  have hl:ws.length=ds.length:=by have:=congrArg List.length h1; simpa using this
  exact .inr ⟨a,ws,ea,ha,by rw [hl]; exact q _ H (.refl k) (.int _)⟩
 | _=>simp [pLen] at hp
theorem z13 (hg:Gl X "len") (hm:X.mg "len" = none) (he:SB X c e fb) (hs:starEach [e] X.env=(false,eval e X.env) :: starEach [] X.env:=by rfl):SE X c (.Call (.Name "len" pp) [e] [] pos) (eC1 pLen fb) :=
 z5A ((call_len_seq.or z8p).or zbi) (fun v H Q h=>by
  rcases h with (⟨p,ys,e,h⟩ | ⟨z,e,h⟩) | ⟨a,kvs,e,h⟩
  ·exact .inl (.inl ⟨p,ys,by rw [e],h⟩)
  ·exact .inl (.inr ⟨z,by rw [e],h⟩)
  ·exact .inr ⟨a,kvs,by rw [e],h⟩) (zeA (K:=X.K)) hg hm PySem.boot_len he (by decide) (by decide) hs
def z1Q:D→Option S
 | .lst ds=>some (.pure (.tup ds))
 | .tup ds=>some (.pure (.tup ds))
 | _=>none
def zdV (K:PySem.W.Frag):V→Hp→VK→Prop:=fun v H Q=>∃ p ys,v = .ref p∧((SqL K H p ys∧∀ l,H l=none→Q (.ref l) (upd H l (.tup ys)))∨(SqT K H p ys∧Q (.ref p) H))
theorem zbJ {K:PySem.W.Frag}:Op1 (zdV K) z1Q:=by
 intro c σ δ H x d s Q k rx hp q
 cases d with
 | lst ds =>
  simp only [z1Q,Option.some.injEq] at hp
  subst hp
  obtain ⟨a,vs,ea,ha,ra⟩:=rx.lst
  exact ⟨a,vs,ea,.inl ⟨.inl ha,fun l hl=>q _ _ (.alloc k hl _) (RepS.newT k ra hl)⟩⟩
 | tup ds =>
  simp only [z1Q,Option.some.injEq] at hp
  subst hp
  obtain ⟨a,vs,ea,ha,ra⟩:=rx.tup
  refine ⟨a,vs,ea,.inr ⟨.of ha,?_⟩⟩
  rw [ea] at rx
  rcases rx with rx | ⟨_,_,rx⟩
  ·exact q _ H (.refl k) rx
  ·exact rx.elim
 | _=>simp [z1Q] at hp
theorem z3j (hg:Gl X "tuple") (hm:X.mg "tuple" = none) (he:SB X c e fb) (hs:starEach [e] X.env=(false,eval e X.env) :: starEach [] X.env:=by rfl):SE X c (.Call (.Name "tuple" pp) [e] [] pos) (eC1 z1Q fb) :=
 z4F z7z (fun v H Q ⟨p,ys,e,h⟩=>⟨p,ys,by rw [e],h⟩) (zbJ (K:=X.K)) hg hm PyProof.Rows.boot_tuple he (by decide) (by decide) hs
def pInt:D→Option S
 | .int i=>some (.pure (.int i))
 | .bl b=>some (.pure (.int (if b then 1 else 0)))
 | _=>none
theorem zcJ (hg:Gl X "int") (hm:X.mg "int" = none) (he:SB X c e fb) (hs:starEach [e] X.env=(false,eval e X.env) :: starEach [] X.env:=by rfl):SE X c (.Call (.Name "int" pp) [e] [] pos) (eC1 pInt fb) :=
 z4F (r:=fun v H Q=>(∃ i,v = .int i∧Q (.int i) H)∨∃ k,v = .bl k∧Q (.int (if k then 1 else 0)) H) zbj (fun v H Q h=>by
  rcases h with ⟨i,e,q⟩ | ⟨k,e,q⟩
  ·exact .inl ⟨i,by rw [e],q⟩
  ·exact .inr ⟨k,by rw [e],q⟩) (fun c σ δ H x d s Q k rx hp q=>by
  cases d with
  | int i =>
   simp only [pInt,Option.some.injEq] at hp
   subst hp
   exact .inl ⟨i,rx.int,q _ H (.refl k) (.int _)⟩
  | bl b =>
   simp only [pInt,Option.some.injEq] at hp
   subst hp
   exact .inr ⟨b,rx.bl,q _ H (.refl k) (.int _)⟩
  | _=>simp [pInt] at hp) hg hm PyProof.Rows.boot_int he (by decide) (by decide) hs
def z6u:List D→Option (List Bool)
 | []=>some []
 | .bl b :: r=>(z6u r).map (b :: ·)
 | _ :: _=>none
def z29:List D→Option (List Tx)
 | []=>some []
 | .str x :: r=>(z29 r).map (x :: ·)
 | _ :: _=>none
theorem z6G {H:Hp} {O:Addr→Prop}:∀ {ds:List D} {vs:List V} {bs:List Bool},z6u ds=some bs→Reps H O vs ds→vs=bs.map V.bl
 | [],vs,bs,h,r=>by
  simp only [z6u,Option.some.injEq] at h
  subst h
  have:=r.1
  simpa using this
 | d :: ds,[],bs,h,r=>by have:=r.1; simp at this
 | d :: ds,v :: vs,bs,h,r=>by
  cases d with
  | bl b =>
   simp only [z6u] at h
   cases e:z6u ds with
   | none=>rw [e] at h; cases h
   | some bs' =>
    rw [e] at h
    simp only [Option.map_some,Option.some.injEq] at h
    subst h
    have:=r.head
    cases this
    rw [z6G e r.tail]
    rfl
  | _=>simp [z6u] at h
theorem z46 {H:Hp} {O:Addr→Prop}:∀ {ds:List D} {vs:List V} {bs:List Tx},z29 ds=some bs→Reps H O vs ds→vs=bs.map fun z=>V.str (toS z)
 | [],vs,bs,h,r=>by
  simp only [z29,Option.some.injEq] at h
  subst h
  have:=r.1
  simpa using this
 | d :: ds,[],bs,h,r=>by have:=r.1; simp at this
 | d :: ds,v :: vs,bs,h,r=>by
  cases d with
  | str b =>
   simp only [z29] at h
   cases e:z29 ds with
   | none=>rw [e] at h; cases h
   | some bs' =>
    rw [e] at h
    simp only [Option.map_some,Option.some.injEq] at h
    subst h
    have:=r.head
    cases this
    rw [z46 e r.tail]
    rfl
  | _=>simp [z29] at h
def pAll:D→Option S
 | .lst ds=>(z6u ds).map fun bs=>.pure (.bl (bs.all (fun b=>b)))
 | _=>none
theorem zbZ:bootBuiltins "all" = some (.builtin "all"):=by decide +kernel
theorem z7P (hc:X.calm=true) (hg:Gl X "all") (hm:X.mg "all" = none) (he:SB X c e fb) (hs:starEach [e] X.env=(false,eval e X.env) :: starEach [] X.env:=by rfl):SE X c (.Call (.Name "all" pp) [e] [] pos) (eC1 pAll fb) :=
 z5A (r:=fun v H Q=>∃ (a:Addr) (bs:List Bool),v = .ref a∧SqL X.K H a (bs.map V.bl)∧Q (.bl (bs.all (fun b=>b))) H) (zbY hc) (fun v H Q ⟨a,bs,e,h⟩=>⟨a,bs,by rw [e],h⟩) (fun c σ δ H x d s Q k rx hp q=>by
  cases d with
  | lst ds =>
   simp only [pAll] at hp
   cases e:z6u ds with
   | none=>rw [e] at hp; cases hp
   | some bs =>
    rw [e] at hp
    simp only [Option.map_some,Option.some.injEq] at hp
    subst hp
    obtain ⟨a,vs,ea,ha,ra⟩:=rx.lst
    have:=z6G e ra
    subst this
    exact ⟨a,bs,ea,.inl ha,q _ H (.refl k) (.bl _)⟩
  | _=>simp [pAll] at hp) hg hm zbZ he (by decide) (by decide) hs
def pMax:D→D→Option S
 | .int i,.int j=>some (.pure (.int (if j > i then j else i)))
 | _,_=>none
def eMax (f g:DE):DE:=fun δ=>(f δ).bind fun x δ1=>(g δ1).bind fun y δ2=>p2 pMax x.d y.d δ2
theorem za8 {a b:Expr} {f g:DE} (hc:X.calm=true) (hg:Gl X "max") (hm:X.mg "max" = none) (ha:SE X c a f) (hb:SE X c b g) (hs:starEach [a,b] X.env=(false,eval a X.env) :: starEach [b] X.env:=by rfl)
  (hs2:starEach [b] X.env=(false,eval b X.env) :: starEach [] X.env:=by rfl) (hpl:(backTo pos (starEach [b] X.env)).any (·.1)=false:=by rfl):SE X c (.Call (.Name "max" pp) [a,b] [] pos) (eMax f g) :=
 PE.weak (z5B (zbh hc) hg hm PyProof.Rows.boot_max (z2s ha (z2s hb z4f hs2) hs) (by decide) (by decide) hs hpl) fun σ H Q ⟨δ,k,q⟩=>by
  unfold eMax at q
  rw [z0b] at q
  refine ⟨δ,k,z07 q fun x δ1 q1 v H1 a1 r1=>⟨δ1,a1.ok,?_⟩⟩
  rw [z0b] at q1
  refine z07 q1 fun y δ2 q2 u H2 a2 r2=>?_
  unfold p2 at q2
  have hx:RepB c σ δ2 H2 v x.d:=.inl (Rep.aft r1.rep a2)
  have hy:=r2.b
  generalize x.d=dx at q2 hx
  generalize y.d=dy at q2 hy
  cases dx <;> cases dy <;> first
   | exact q2.elim
   | skip
  rename_i i j
  exact ⟨i,j,by rw [hx.int,hy.int],q2 _ H2 (a1.trans a2) (.int _)⟩
def isTy (T:String):D→Option Bool
 | .non=>some (T == "NoneType")
 | .bl _=>some (T == "bool" || T == "int")
 | .int _=>some (T == "int")
 | .str _=>some (T == "str")
 | .tup _=>some (T == "tuple")
 | .lst _=>some (T == "list")
 | .dct _=>some (T == "dict")
structure TyK (K:PySem.W.Frag) (T:String):Prop where
 non:PySem.W.kitOne K (.type "NoneType") (.type T)=some (T == "NoneType")
 bl:PySem.W.kitOne K (.type "bool") (.type T)=some (T == "bool" || T == "int")
 int:PySem.W.kitOne K (.type "int") (.type T)=some (T == "int")
 str:PySem.W.kitOne K (.type "str") (.type T)=some (T == "str")
 tup:PySem.W.kitOne K (.type "tuple") (.type T)=some (T == "tuple")
 lst:PySem.W.kitOne K (.type "list") (.type T)=some (T == "list")
 dct:PySem.W.kitOne K (.type "dict") (.type T)=some (T == "dict")
def eIsi (T:String) (fb:BE):DE:=fun δ=>(fb δ).bind fun d δ'=>match isTy T d with
 | some b=>.ok (.pure (.bl b)) δ'
 | none=>.stuck
theorem zbN {v:V} {u:Value} {d:D} {b:Bool} {σ:St} {H:Hp} {pins:List (Addr×Obj)} {s:Shared} {Q:VK} (ty:TyK X.K T) (I:Inv X pins σ H s) (ru:RelV v u) (r:Rep H NoO v d) (e:isTy T d=some b) (q:Q (.bl b) H) :
  wpAny (model X.prog X.w) X.A (call (.builtin "isinstance") [u,.type T]) (EP X pins σ Q) X.xe s:=by
 have fin:∀ tk,EP X pins σ Q (.bool b) { s with toks:=tk }:=fun tk=>⟨.bl b,H,I.tok tk,rfl,q⟩
 cases r with
 | non=>exact z2Q I ru .non (ty.non.trans e) fin
 | bl x=>exact z2Q I ru (.bl x) (ty.bl.trans e) fin
 | int x=>exact z2Q I ru (.int x) (ty.int.trans e) fin
 | str x=>exact z2Q I ru (.str _) (ty.str.trans e) fin
 | tup _ h2 _ _=>exact z2Q I ru (.tup h2) (ty.tup.trans e) fin
 | lst _ h2 _ _ =>
  rcases h2 with h2 | ⟨o,h2⟩
  ·exact z2Q I ru (.lst h2) (ty.lst.trans e) fin
  ·exact z2Q I ru (.frz h2) (ty.lst.trans e) fin
 | dct _ h2 _ _=>exact z2Q I ru (.dK h2) (ty.dct.trans e) fin
theorem zbX (ty:TyK X.K T):CallR X (.builtin "isinstance") (fun xs H Q=>∃ v d b,xs=[v,.ty T]∧Rep H NoO v d∧isTy T d=some b∧Q (.bl b) H):=by
 intro pins s σ H xs us Q I r h
 obtain ⟨v,d,b,rfl,rp,e,q⟩:=h
 obtain ⟨u,w',rfl,r1,r2⟩:=zcp r
 cases r2
 exact zbN ty I r1 rp e q
theorem z36 {y:Str} {py:Pos} (ty:TyK X.K T) (hg:Gl X "isinstance") (hm:X.mg "isinstance" = none) (hgy:Gl X y) (hmy:X.mg y=none) (hvy:bootBuiltins y=some (.type T)) (he:SB X c e fb)
  (hny:y≠"__name__":=by decide) (hdy:(y == ("__debug__" : Str))=false:=by decide)
  (hs:starEach [e,.Name y py] X.env=(false,eval e X.env) :: starEach [.Name y py] X.env:=by rfl) (hpl:(backTo pos (starEach [.Name y py] X.env)).any (·.1)=false:=by rfl) :
  SE X c (.Call (.Name "isinstance" pp) [e,.Name y py] [] pos) (eIsi T fb) :=
 PE.weak (z5B (zbX ty) hg hm PyProof.Rows.boot_isinstance (z2s he (z2s (zd4 (v:=.ty T) hgy hmy hvy rfl hny hdy) z4f) hs) (by decide) (by decide) hs hpl) fun σ H Q ⟨δ,k,q⟩=>by
  unfold eIsi at q
  rw [z0b] at q
  refine ⟨δ,k,z07 q fun d δ1 q1 v H1 a1 r1=>?_⟩
  cases e1:isTy T d with
  | none=>rw [e1] at q1; exact q1.elim
  | some b =>
   rw [e1] at q1
   exact ⟨v,d,b,rfl,r1.un,e1,q1 _ H1 a1 (.bl _)⟩
end
open PySem PySem.Spec PyProof.Rows L2
abbrev DOp:=Dl→Rs (Option Int)
def tOD (c:Fc) (f:DOp):TO:=fun σ H Q=>∃ δ,Ok c σ δ H∧post c (f δ) fun o δ'=>∀ H',Aft c σ δ H σ δ' H'→Q o H'
abbrev SO (X:Cx) (c:Fc) (e:Option Expr) (f:DOp):Prop:=PO X e (tOD c f)
theorem PO.weak {X:Cx} {e:Option Expr} {t t':TO} (h:PO X e t) (w:∀ σ H Q,t' σ H Q→t σ H Q):PO X e t':=fun pins s σ H Q I q=>h pins s σ H Q I (w σ H Q q)
def z38:DOp:=fun δ=>.ok none δ
def z19 (f:DE):DOp:=fun δ=>(f δ).bind fun r δ'=>match r with
 | .pure (.int i)=>.ok (some i) δ'
 | _=>.stuck
section
variable {X:Cx} {c:Fc} {e:Expr} {f:DE} {fb:BE} {fl fh:DOp} {lo hi:Option Expr} {pos p2:Pos}
theorem z3M:SO X c none z38:=PO.weak zcZ fun σ H Q ⟨δ,k,q⟩=>q H (.refl k)
theorem z1x (h:SE X c e f):SO X c (some e) (z19 f):=PO.weak (zcY h) fun σ H Q ⟨δ,k,q⟩=>by
 unfold z19 at q
 rw [z0b] at q
 refine ⟨δ,k,z07 q fun r δ1 q1 v H1 a1 r1=>?_⟩
 cases r with
 | own d=>exact q1.elim
 | pure d =>
  cases d <;> first | exact q1.elim | skip
  rename_i i
  cases r1
  exact ⟨i,rfl,q1 H1 a1⟩
def pSl (lo hi:Option Int):D→Option S
 | .str x=>if x.length≤sizeLine then some (.pure (.str (cutL x lo hi))) else none
 | .tup ds=>some (.pure (.tup (cutL ds lo hi)))
 | .lst ds=>some (.own (.lst (cutL ds lo hi)))
 | _=>none
def rSlD (K:PySem.W.Frag):V→Option Int→Option Int→Hp→VK→Prop:=fun x lo hi H Q=>rSlS x lo hi H Q∨zdW K x lo hi H Q∨rSlL K x lo hi H Q
theorem sl_D:SlR X (rSlD X.K):=sl_str.or (sl_tup2.or zcC)
theorem zez {K:PySem.W.Frag} (lo hi:Option Int):Op1 (fun x H Q=>rSlD K x lo hi H Q) (pSl lo hi):=by
 intro c σ δ H x d s Q k rx hp q
 cases d with
 | str z =>
  simp only [pSl] at hp
  split at hp
  ·rename_i hz
   simp only [Option.some.injEq] at hp
   subst hp
   exact .inl ⟨z,rx.str,hz,q _ H (.refl k) (.str _)⟩
  ·cases hp
 | tup ds =>
  simp only [pSl,Option.some.injEq] at hp
  subst hp
  obtain ⟨a,vs,ea,ha,ra⟩:=rx.tup
  refine .inr (.inl ⟨a,vs,ea,.of ha,fun hw=>?_,fun _ p hp=>?_⟩)
  ·rw [ra.1] at hw
   rw [zb6 hw] at q
   rw [ea] at rx
   rcases rx with rx | ⟨_,_,rx⟩
   ·exact q _ H (.refl k) rx
   ·exact rx.elim
  ·rw [← zcm]
   exact q _ _ (.alloc k hp _) (RepS.newT k (ra.cut lo hi) hp)
 | lst ds =>
  simp only [pSl,Option.some.injEq] at hp
  subst hp
  obtain ⟨a,vs,ea,ha,ra⟩:=rx.lst
  refine .inr (.inr ⟨a,vs,ea,.inl ha,fun p hp=>?_⟩)
  rw [← zcm]
  exact q _ _ (.alloc k hp _) (RepS.newL k (ra.cut lo hi) hp)
 | _=>simp [pSl] at hp
def eSl (f:DE) (fl fh:DOp):DE:=fun δ=>(f δ).bind fun x δ1=>(fl δ1).bind fun l δ2=>(fh δ2).bind fun h δ3=>p1 (pSl l h) x.d δ3
theorem se_sl (he:SE X c e f) (hl:SO X c lo fl) (hh:SO X c hi fh):SE X c (.Subscript e (.Slice lo hi none p2) pos) (eSl f fl fh):=PE.weak (z99 sl_D he hl hh) fun σ H Q ⟨δ,k,q⟩=>by
 unfold eSl at q
 rw [z0b] at q
 refine ⟨δ,k,z07 q fun x δ1 q1 v H1 a1 r1=>⟨δ1,a1.ok,?_⟩⟩
 rw [z0b] at q1
 refine z07 q1 fun l δ2 q2 H2 a2=>⟨δ2,a2.ok,?_⟩
 rw [z0b] at q2
 refine z07 q2 fun h δ3 q3 H3 a3=>?_
 exact z8H (zez l h) a3.ok (.inl (Rep.aft r1.rep (a2.trans a3))) (z07 q3 fun s δ4 q4 w H4 a4 r4=>q4 w H4 (a1.trans (a2.trans (a3.trans a4))) (RepS.back r4 (a1.trans (a2.trans a3))))
def eSlN (i:Nat) (fl fh:DOp):DE:=fun δ=>match δ[i]? with
 | some (some _)=>(fl δ).bind fun l δ2=>(fh δ2).bind fun h δ3=>(bVar i δ3).bind fun x δ4=>p1 (pSl l h) x δ4
 | _=>.stuck
theorem zcB {i:Nat} {σ:St} {δ:Dl} {H:Hp} {v:V} {w:S} (k:Ok c σ δ H) (e:δ[i]? = some (some w)) (ev:σ[i]? = some (some v)):RepB c σ δ H v w.d:=by
 cases w with
 | pure d =>
  obtain ⟨v',e1,r⟩:=k.slot i d e
  rw [ev] at e1; cases e1
  exact .inl r
 | own d =>
  obtain ⟨a,e1,r,_⟩:=k.own i d e
  rw [ev] at e1; cases e1
  exact .inr ⟨a,rfl,r⟩
theorem zbl {α:Type} {i:Nat} {δ:Dl} {g:D→Dl→Rs α} {kk:α→Dl→Prop} (h:post c ((bVar i δ).bind g) kk):∃ w,δ[i]? = some (some w)∧post c (g w.d δ) kk:=by
 unfold bVar at h
 cases e:δ[i]? with
 | none=>rw [e] at h; exact h.elim
 | some o =>
  cases o with
  | none=>rw [e] at h; exact h.elim
  | some w=>rw [e] at h; exact ⟨w,rfl,h⟩
theorem z3x {i:Nat} (he:PE X e (tVar i)) (hl:SO X c lo fl) (hh:SO X c hi fh):SE X c (.Subscript e (.Slice lo hi none p2) pos) (eSlN i fl fh):=PE.weak (z99 sl_D he hl hh) fun σ H Q ⟨δ,k,q⟩=>by
 unfold eSlN at q
 cases e:δ[i]? with
 | none=>rw [e] at q; exact q.elim
 | some o =>
  cases o with
  | none=>rw [e] at q; exact q.elim
  | some w =>
   rw [e] at q
   obtain ⟨v,ev⟩:=z52 k e
   have q':post c ((fl δ).bind fun l δ2=>(fh δ2).bind fun h δ3=>(bVar i δ3).bind fun x δ4=>p1 (pSl l h) x δ4) fun r δ'=>∀ v H',Aft c σ δ H σ δ' H'→RepS c σ δ' H H' v r→Q v H':=q
   rw [z0b] at q'
   refine ⟨v,ev,δ,k,z07 q' fun l δ2 q2 H2 a2=>⟨δ2,a2.ok,?_⟩⟩
   rw [z0b] at q2
   refine z07 q2 fun h δ3 q3 H3 a3=>?_
   obtain ⟨w3,e3,q4⟩:=zbl q3
   exact z8H (zez l h) a3.ok (zcB a3.ok e3 ev) (z07 q4 fun s δ4 q4 w H4 a4 r4=>q4 w H4 (a2.trans (a3.trans a4)) (RepS.back r4 (a2.trans a3)))
def pRev:D→Option S
 | .str x=>if x.length≤sizeLine then some (.pure (.str x.reverse)) else none
 | .lst ds=>some (.own (.lst ds.reverse))
 | _=>none
def rRev (K:PySem.W.Frag):V→Hp→VK→Prop:=fun x H Q=>(∃ z:Tx,x = .str (toS z)∧z.length≤sizeLine∧Q (.str (toS z.reverse)) H)∨∃ a xs,x = .ref a∧SqL K H a xs∧∀ p,H p=none→Q (.ref p) (upd H p (.lst xs.reverse))
def z65 (z:Tx):List Tx→Tx
 | []=>[]
 | [x]=>x
 | x :: y :: r=>x ++ z ++ z65 z (y :: r)
theorem z9i (z:Tx):∀ (r:List Tx) (acc:Tx),((r.map toS).foldl (fun (acc:Array Nat) p=>acc ++ (toS z).cps ++ p.cps) acc.toArray)=(match r with | []=>acc | x :: r'=>acc ++ z ++ z65 z (x :: r')).toArray
 | [],acc=>rfl
 | x :: r,acc=>by
  rw [List.map_cons,List.foldl_cons]
  have e:acc.toArray ++ (toS z).cps ++ (toS x).cps=(acc ++ z ++ x).toArray:=by simp [toS]
  rw [e,z9i z r (acc ++ z ++ x)]
  cases r with
  | nil=>simp [z65]
  | cons y r'=>simp [z65]
theorem zde (z:Tx) (ts:List Tx):Txt.join (toS z) (ts.map toS)=toS (z65 z ts):=by
 show Builtin.Str.glued _ _=_
 unfold Builtin.Str.glued
 cases ts with
 | nil=>rfl
 | cons x r =>
  rw [List.map_cons]
  show (⟨(List.foldl _ (toS x).cps (r.map toS))⟩:Str)=_
  have:=z9i z r x
  have e:(toS x).cps=x.toArray:=rfl
  rw [e,this]
  cases r with
  | nil=>rfl
  | cons y r'=>rfl
def z3n (ts:List Tx):Nat:=(ts.map (·.length)).sum
def z2t (z:Tx):D→Option S
 | .lst ds=>match z29 ds with
  | some ts=>if z3n ts + ts.length * z.length≤16777216 then some (.pure (.str (z65 z ts))) else none
  | none=>none
 | .tup ds=>match z29 ds with
  | some ts=>if z3n ts + ts.length * z.length≤16777216 then some (.pure (.str (z65 z ts))) else none
  | none=>none
 | _=>none
theorem zda {K:PySem.W.Frag} (z:Tx):Op1 (fun x H Q=>zby K (.str (toS z)) [x] H Q) (z2t z):=by
 intro c σ δ H x d s Q k rx hp q
 have key:∀ (a:Addr) (vs:List V) (ds:List D),x = .ref a→(SqL K H a vs∨SqT K H a vs)→Reps H (Av c σ δ) vs ds→(match z29 ds with | some ts=>if z3n ts + ts.length * z.length≤16777216 then some (S.pure (.str (z65 z ts))) else none | none=>none)=some s→zby K (.str (toS z)) [x] H Q:=by
  intro a vs ds ea ha ra hp
  cases e:z29 ds with
  | none=>rw [e] at hp; cases hp
  | some ts =>
   rw [e] at hp
   simp only at hp
   split at hp
   ·rename_i hz
    simp only [Option.some.injEq] at hp
    subst hp
    have:=z46 e ra
    subst this
    refine ⟨toS z,a,ts.map toS,rfl,by rw [ea],?_,?_,?_⟩
    ·rw [List.map_map]; exact ha
    ·rw [List.map_map,List.length_map,z34]
     have:((fun x:Str=>x.length) ∘ toS)=fun x:Tx=>x.length:=funext fun x=>z34 x
     rw [this]
     exact hz
    ·rw [zde]
     exact q _ H (.refl k) (.str _)
   ·cases hp
 cases d with
 | lst ds =>
  obtain ⟨a,vs,ea,ha,ra⟩:=rx.lst
  exact key a vs ds ea (.inl (.inl ha)) ra hp
 | tup ds =>
  obtain ⟨a,vs,ea,ha,ra⟩:=rx.tup
  exact key a vs ds ea (.inr (.of ha)) ra hp
 | _=>simp [z2t] at hp
theorem z5K {x:Str} {j} {p0 apos cpos:Pos} (z:Tx) (he:SB X c e fb) (hx:x=toS z:=by decide +kernel)
  (hbase:attributeBase (.Constant (.str x) j p0) "join" X.env (eval (.Constant (.str x) j p0) X.env)=eval (.Constant (.str x) j p0) X.env:=by rfl)
  (hfew:((backTo cpos (starEach [e] X.env)).all (fun x=>!x.1) && (backToKw cpos (keywordEach [] X.env)).all (fun x=>x.1.isSome)
   && decide ([e].length + ([]:List Keyword).length + (if ([]:List Keyword).isEmpty then 0 else 1) < 30))=true:=by rfl)
  (hline:(apos.endLine == cpos.line)=true:=by rfl) (hs:starEach [e] X.env=(false,eval e X.env) :: starEach [] X.env:=by rfl) :
  SE X c (.Call (.Attribute (.Constant (.str x) j p0) "join" apos) [e] [] cpos) (eC1 (z2t z) fb):=by
 subst hx
 refine PE.weak (zep PySem.F.plainAttrs_str PySem.F.slot_str_join PySem.F.type_str_join zdc zcb (z2s he z4f hs) hbase hfew hline hs rfl) fun σ H Q h=>?_
 obtain ⟨δ,k,q⟩:=z5H (r:=fun x H Q=>zby X.K (.str (toS z)) [x] H Q) (zda z) h
 refine ⟨?_,δ,k,q⟩
 show ("str" : String) = "str"
 rfl
end
open PySem PySem.Spec PyProof.Rows L2
inductive Fl where
 | next | ret (r:S) | brk | cont
abbrev DS:=Dl→Rs Fl
def fin (c:Fc) (D:Ends) (σ:St) (δ:Dl) (H:Hp):Fl→Prop
 | .next=>D.nx σ H
 | .ret r=>∀ v,RepS c σ δ c.H₀ H v r→D.rt v H
 | .brk=>D.bk σ H
 | .cont=>D.ct σ H
def z54 (c:Fc) (D:Ends) (σ:St) (δ:Dl) (H:Hp) (r:Rs Fl):Prop:=post c r fun fl δ'=>∀ σ' H',Aft c σ δ H σ' δ' H'→fin c D σ' δ' H' fl
def tDS (c:Fc) (f:DS):TS:=fun D σ H=>∃ δ,Ok c σ δ H∧z54 c D σ δ H (f δ)
abbrev SS (X:Cx) (c:Fc) (st:Stmt) (f:DS):Prop:=PS X st (tDS c f)
abbrev SSs (X:Cx) (c:Fc) (st:List Stmt) (f:DS):Prop:=PSs X st (tDS c f)
theorem PS.weak {X:Cx} {st:Stmt} {t t':TS} (h:PS X st t) (w:∀ D σ H,t' D σ H→t D σ H):PS X st t':=fun pins s σ H D I q=>h pins s σ H D I (w D σ H q)
theorem PSs.weak {X:Cx} {st:List Stmt} {t t':TS} (h:PSs X st t) (w:∀ D σ H,t' D σ H→t D σ H):PSs X st t':=fun pins s σ H D I q=>h pins s σ H D I (w D σ H q)
def z0N:DS:=fun δ=>.ok .next δ
def dSeq (f g:DS):DS:=fun δ=>(f δ).bind fun fl δ1=>match fl with
 | .next=>g δ1
 | .ret r=>.ok (.ret r) δ1
 | .brk=>.ok .brk δ1
 | .cont=>.ok .cont δ1
def z6s (f:DE):DS:=fun δ=>(f δ).bind fun _ δ1=>.ok .next δ1
def dRet (f:DE):DS:=fun δ=>(f δ).bind fun r δ1=>.ok (.ret r) δ1
def dIf (t:DT) (f g:DS):DS:=fun δ=>(t δ).bind fun b δ1=>if b then f δ1 else g δ1
def z4V:DS:=fun _=>.stuck
def eRetN (np:List Nat) (i:Nat):DE:=fun δ=>match δ[i]? with
 | some (some (.own d))=>if np.contains i then .ok (.pure d) (δ.set i (some (.pure d))) else .ok (.own d) (δ.set i none)
 | some (some (.pure d))=>.ok (.pure d) δ
 | _=>.stuck
section
variable {X:Cx} {c:Fc} {st:Stmt} {sts:List Stmt} {e a:Expr} {f g:DS} {fe:DE} {t:DT} {pos pos':Pos}
theorem z1j:SSs X c [] z0N:=PSs.weak zcX fun D σ H ⟨δ,k,q⟩=>q σ H (.refl k)
theorem z03 (h1:SS X c st f) (h2:SSs X c sts g):SSs X c (st :: sts) (dSeq f g):=PSs.weak (zbB h1 h2) fun D σ H ⟨δ,k,q⟩=>by
 unfold dSeq z54 at q
 rw [z0b] at q
 refine ⟨δ,k,z07 q fun fl δ1 q1 σ1 H1 a1=>?_⟩
 cases fl with
 | next=>exact ⟨δ1,a1.ok,z07 q1 fun fl2 δ2 q2 σ2 H2 a2=>q2 σ2 H2 (a1.trans a2)⟩
 | ret r=>exact q1 σ1 H1 a1
 | brk=>exact q1 σ1 H1 a1
 | cont=>exact q1 σ1 H1 a1
theorem z0e (h1:SS X c st f):SSs X c [st] f:=PSs.weak (zcW h1) fun D σ H h=>h
theorem z4B:SS X c st z4V:=PS.weak zbC fun D σ H ⟨δ,k,q⟩=>q
theorem z0u (he:SE X c e fe):SS X c (.Return (some e) pos) (dRet fe):=PS.weak (zec he) fun D σ H ⟨δ,k,q⟩=>by
 unfold dRet z54 at q
 rw [z0b] at q
 exact ⟨δ,k,z07 q fun r δ1 q1 v H1 a1 r1=>q1 σ H1 a1 v r1.home⟩
theorem z2b {b1 b2:List Stmt} (ht:ST X c e t) (h1:SSs X c b1 f) (h2:SSs X c b2 g):SS X c (.If e b1 b2 pos) (dIf t f g):=PS.weak (ps_if ht h1 h2) fun D σ H ⟨δ,k,q⟩=>by
 unfold dIf z54 at q
 rw [z0b] at q
 refine ⟨δ,k,z07 q fun b δ1 q1 H1 a1=>?_⟩
 cases b with
 | true=>exact ⟨δ1,a1.ok,z07 q1 fun fl δ2 q2 σ2 H2 a2=>q2 σ2 H2 (a1.trans a2)⟩
 | false=>exact ⟨δ1,a1.ok,z07 q1 fun fl δ2 q2 σ2 H2 a2=>q2 σ2 H2 (a1.trans a2)⟩
theorem Own.of_set {σ:St} {δ:Dl} {i:Nat} {v:V} {r:S} {b:Addr} (h:Own (σ.set i (some v)) (δ.set i (some r)) b):Own σ δ b∨(v = .ref b∧∃ d,r = .own d):=by
 obtain ⟨j,d,e1,e2⟩:=h
 by_cases hj:i=j
 ·subst hj
  right
  rw [List.getElem?_set] at e1 e2
  simp at e1 e2
  obtain ⟨_,h1⟩:=e1
  obtain ⟨_,h2⟩:=e2
  exact ⟨h2,d,h1⟩
 ·rw [List.getElem?_set_ne hj] at e1 e2
  exact .inl ⟨j,d,e1,e2⟩
theorem Ok.set {σ:St} {δ:Dl} {H:Hp} {i:Nat} {v:V} {r:S} {σ₀:St} {δ₀:Dl} {H₁:Hp} (x:Aft c σ₀ δ₀ H₁ σ δ H) (hr:RepS c σ δ H₁ H v r) (hp:∀ p ∈ c.pin,p.1≠i):Aft c σ₀ δ₀ H₁ (σ.set i (some v)) (δ.set i (some r)) H:=by
 have k:=x.ok
 -- all slots avoid the new address,too
 have all:∃ c':Fc,c'.H₀=c.H₀∧c'.pin=c.pin∧Ok c' σ δ H∧(∀ b,Av c (σ.set i (some v)) (δ.set i (some r)) b→Av c' σ δ b):=by
  cases r with
  | pure d =>
   refine ⟨c,rfl,rfl,k,fun b z=>?_⟩
   rcases z with z | z
   ·exact .inl z
   ·rcases z.of_set with z | ⟨_,d',e⟩
    ·exact .inr z
    ·cases e
  | own d =>
   obtain ⟨a,ea,o,n,f,k2,_⟩:=hr
   refine ⟨c.plus a,rfl,rfl,k2,fun b z=>?_⟩
   rcases z with z | z
   ·exact .inl (.inl z)
   ·rcases z.of_set with z | ⟨e,_⟩
    ·exact .inr z
    ·rw [ea] at e; cases e
     exact .inl (.inr rfl)
 obtain ⟨c',eH,eP,k2,sub⟩:=all
 have eI:∀ a,c'.I a ↔ c.I a:=fun a=>by unfold Fc.I; rw [eP]
 have hrep:Rep H (Av c (σ.set i (some v)) (δ.set i (some r))) v r.d∨∃ d,r = .own d:=by
  cases r with
  | pure d =>
   left
   refine Rep.anti hr fun b z=>?_
   rcases z with z | z
   ·exact .inl (.inl z)
   ·rcases z.of_set with z | ⟨_,d',e⟩
    ·exact .inl (.inr z)
    ·cases e
  | own d=>exact .inr ⟨d,rfl⟩
 refine ⟨⟨k.keep,k.bd,k.ith,by rw [List.length_set,List.length_set]; exact k.len,fun j d e=>?_,fun j d e=>?_,fun j l a d d' e1 e2 e3 e4=>?_,fun p hm=>?_⟩,x.keep,fun b z=>?_,x.there⟩
 ·by_cases hj:i=j
  ·subst hj
   rw [List.getElem?_set] at e
   simp at e
   obtain ⟨hi,rfl⟩:=e
   have hi':i < σ.length:=by rw [← k.len]; exact hi
   rcases hrep with h | ⟨_,h⟩
   ·exact ⟨v,by rw [List.getElem?_set_self hi'],h⟩
   ·cases h
  ·rw [List.getElem?_set_ne hj] at e
   obtain ⟨w,e1,q⟩:=k2.slot j d e
   exact ⟨w,by rw [List.getElem?_set_ne hj]; exact e1,q.anti fun b z=>.inl (sub b z)⟩
 ·by_cases hj:i=j
  ·subst hj
   rw [List.getElem?_set] at e
   simp at e
   obtain ⟨hi,rfl⟩:=e
   have hi':i < σ.length:=by rw [← k.len]; exact hi
   obtain ⟨a,ea,o,n,f,k3,_⟩:=hr
   refine ⟨a,by rw [List.getElem?_set_self hi',ea],o.anti fun b z=>.inl ?_,.inr f,n⟩
   rcases z with z | z
   ·exact .inl (.inl z)
   ·rcases z.of_set with z | ⟨e,_⟩
    ·exact .inr z
    ·rw [ea] at e; cases e
     exact .inl (.inr rfl)
  ·rw [List.getElem?_set_ne hj] at e
   obtain ⟨a,e1,q,q2,q3⟩:=k.own j d e
   obtain ⟨a',e1',q',_,_⟩:=k2.own j d e
   rw [e1] at e1'; cases e1'
   exact ⟨a,by rw [List.getElem?_set_ne hj]; exact e1,q'.anti fun b z=>.inl (sub b z),q2,q3⟩
 ·by_cases hj:i=j
  ·subst hj
   by_cases hl:i=l
   ·exact hl
   ·rw [List.getElem?_set_ne hl] at e2 e4
    rw [List.getElem?_set] at e1 e3
    simp at e1 e3
    obtain ⟨_,rfl⟩:=e1
    obtain ⟨_,rfl⟩:=e3
    obtain ⟨a',ea,o,n,f,k3,_⟩:=hr
    cases ea
    exact absurd ⟨l,d',e2,e4⟩ (z4I k3)
  ·rw [List.getElem?_set_ne hj] at e1 e3
   by_cases hl:i=l
   ·subst hl
    rw [List.getElem?_set] at e2 e4
    simp at e2 e4
    obtain ⟨_,rfl⟩:=e2
    obtain ⟨_,rfl⟩:=e4
    obtain ⟨a',ea,o,n,f,k3,_⟩:=hr
    cases ea
    exact absurd ⟨j,d,e1,e3⟩ (z4I k3)
   ·rw [List.getElem?_set_ne hl] at e2 e4
    exact k.inj j l a d d' e1 e2 e3 e4
 ·rw [List.getElem?_set_ne (Ne.symm (hp p hm))]
  exact k.pinned p hm
 ·rcases z.of_set with z | ⟨e,d,ed⟩
  ·exact x.own b z
  ·subst ed
   obtain ⟨a,ea,_,_,_,_,hs⟩:=hr
   rw [ea] at e; cases e
   exact .inr hs
abbrev DG:=S→Dl→Option Dl
def tGD (c:Fc) (g:DG):TG:=fun v σ H Q=>∃ σ₀ δ₀ H₁ δ r δ',Aft c σ₀ δ₀ H₁ σ δ H∧RepS c σ δ H₁ H v r∧g r δ=some δ'∧∀ σ',Aft c σ₀ δ₀ H₁ σ' δ' H→Q σ' H
abbrev SG (X:Cx) (c:Fc) (tg:Expr) (g:DG):Prop:=PG X tg (tGD c g)
def gNm (np:List Nat) (i:Nat):DG:=fun r δ=>if np.contains i then none else some (δ.set i (some r))
def Np (c:Fc) (np:List Nat):Prop:=∀ p ∈ c.pin,np.contains p.1=true
theorem z7r {np:List Nat} (hp:Np c np) {i:Nat} {v:V} {σ:St} {H:Hp} {Q:St→Hp→Prop} (h:tGD c (gNm np i) v σ H Q):zbR i v σ H Q:=by
 obtain ⟨σ₀,δ₀,H₁,δ,r,δ',x,rr,e,q⟩:=h
 unfold gNm at e
 split at e
 ·cases e
 ·rename_i hn
  cases e
  exact q _ (Ok.set x rr fun p hm e=>hn (by rw [← e]; exact hp p hm))
theorem PG.weak {tg:Expr} {t t':TG} (h:PG X tg t) (w:∀ v σ H Q,t' v σ H Q→t v σ H Q):PG X tg t':=fun pins s σ H v u Q I r q=>h pins s σ H v u Q I r (w v σ H Q q)
theorem PGs.weak {tg:List Expr} {t t':TGs} (h:PGs X tg t) (w:∀ v σ H Q,t' v σ H Q→t v σ H Q):PGs X tg t':=fun pins s σ H v u Q I r q=>h pins s σ H v u Q I r (w v σ H Q q)
theorem z0t {np:List Nat} {i:Nat} {x:Str} (hp:Np c np) (hN:X.N.Nodup) (hi:X.N[i]? = some x) (hx:Loc X.env.scope x) (hf:X.fn x=true∨X.env.scope.names.lookup x=some .local):SG X c (.Name x pos) (gNm np i) :=
 PG.weak (zax hN hi hx hf) fun v σ H Q h=>z7r hp h
abbrev DGs:=List D→Dl→Option Dl
def tGDs (c:Fc) (g:DGs):TGs:=fun vs σ H Q=>∃ δ ds δ',Ok c σ δ H∧Reps H (Av c σ δ) vs ds∧g ds δ=some δ'∧∀ σ',Aft c σ δ H σ' δ' H→Q σ' H
abbrev SGs (X:Cx) (c:Fc) (tg:List Expr) (g:DGs):Prop:=PGs X tg (tGDs c g)
def z1F:DGs:=fun ds δ=>match ds with
 | []=>some δ
 | _=>none
def z0i (g:DG) (gs:DGs):DGs:=fun ds δ=>match ds with
 | []=>none
 | d :: r=>(g (.pure d) δ).bind fun δ1=>gs r δ1
theorem z3B:SGs X c [] z1F:=PGs.weak zaw fun vs σ H Q ⟨δ,ds,δ',k,r,e,q⟩=>by
 cases ds with
 | nil =>
  cases e
  have:vs=[]:=by have:=r.1; simpa using this
  exact ⟨this,q σ (.refl k)⟩
 | cons d r=>cases e
theorem z0D {es:List Expr} {g:DG} {gs:DGs} (h1:SG X c e g) (h2:SGs X c es gs) (hs:(assignEach (e :: es) X.env).map (·.2)=assign e X.env :: (assignEach es X.env).map (·.2):=by rfl):SGs X c (e :: es) (z0i g gs) :=
 PGs.weak (z98 h1 h2 hs) fun vs σ H Q ⟨δ,ds,δ',k,r,e,q⟩=>by
  cases ds with
  | nil=>cases e
  | cons d ds =>
   cases vs with
   | nil=>have:=r.1; simp at this
   | cons v vs =>
    simp only [z0i] at e
    cases e1:g (.pure d) δ with
    | none=>rw [e1] at e; cases e
    | some δ1 =>
     rw [e1] at e
     refine ⟨v,vs,rfl,σ,δ,H,δ,.pure d,δ1,.refl k,r.head,e1,fun σ1 a1=>?_⟩
     exact ⟨δ1,ds,δ',a1.ok,Reps.aft r.tail a1,e,fun σ2 a2=>q σ2 (a1.trans a2)⟩
def gTp (n:Nat) (gs:DGs):DG:=fun r δ=>match r.d with
 | .tup ds=>if ds.length=n then gs ds δ else none
 | _=>none
theorem z4C {es:List Expr} {k:Nat} {gs:DGs} {n:Nat} (hc:X.calm=true) (h:SGs X c es gs) (hn:(assignEach es X.env).length=n:=by rfl) (hst:(assignEach es X.env).findIdx? (·.1)=none:=by rfl) :
  SG X c (.Tuple es k pos) (gTp n gs):=PG.weak (zca hc h hn hst) fun v σ H Q hw=>by
 obtain ⟨σ₀,δ₀,H₁,δ,r,δ',x,rr,e,q⟩:=hw
 have hb:=rr.b
 unfold gTp at e
 generalize r.d=d at e hb
 cases d <;> first | (cases e; done) | skip
 rename_i ds
 simp only at e
 split at e
 ·rename_i hl
  obtain ⟨a,vs,ea,ha,ra⟩:=hb.tup
  exact ⟨a,vs,ea,.of ha,by rw [ra.1]; exact hl,δ,ds,δ',x.ok,ra,e,fun σ' a1=>q σ' (x.trans a1)⟩
 ·cases e
def dAsg (f:DE) (g:DG):DS:=fun δ=>(f δ).bind fun r δ1=>match g r δ1 with
 | some δ2=>.ok .next δ2
 | none=>.stuck
theorem z7E {g:DG} {D:Ends} {σ:St} {H:Hp} {te:TE} {tg:TG} (he:∀ σ H Q,tD c fe σ H Q→te σ H Q) (hg:∀ v σ H Q,tGD c g v σ H Q→tg v σ H Q) (h:tDS c (dAsg fe g) D σ H):tAsg te tg D σ H:=by
 obtain ⟨δ,k,q⟩:=h
 unfold dAsg z54 at q
 rw [z0b] at q
 refine he _ _ _ ⟨δ,k,z07 q fun r δ1 q1 v H1 a1 r1=>hg _ _ _ _ ?_⟩
 cases e:g r δ1 with
 | none=>rw [e] at q1; exact q1.elim
 | some δ2 =>
  rw [e] at q1
  exact ⟨σ,δ,H,δ1,r,δ2,a1,r1,e,fun σ' a2=>q1 σ' H1 a2⟩
theorem z5h {tg:Expr} {g:DG} (he:SE X c e fe) (hg:SG X c tg g) (hs:swapsWithSole [tg] e pos.line X.env=pure false:=by rfl) (hw:swappedStores [tg] e X.env=pure none:=by rfl)
  (h1:(assignEach [tg] X.env).map (·.2)=[assign tg X.env]:=by rfl):SS X c (.Assign [tg] e pos) (dAsg fe g):=PS.weak (zc9 he hg hs hw h1) fun D σ H h=>z7E (fun _ _ _ h=>h) (fun _ _ _ _ h=>h) h
theorem z0g {np:List Nat} {i:Nat} {x:Str} (hp:Np c np) (hN:X.N.Nodup) (hi:X.N[i]? = some x) (hx:Loc X.env.scope x) (he:SE X c e fe) (hs:swapsWith e (some (.Name x pos')) pos.line X.env=pure false) (hf:X.fn x=true∨X.env.scope.names.lookup x=some .local) :
  SS X c (.Assign [.Name x pos'] e pos) (dAsg fe (gNm np i)):=PS.weak (zeb hN hi hx he hs hf) fun D σ H h=>z7E (fun _ _ _ h=>h) (fun _ _ _ _ h=>z7r hp h) h
theorem zcz (he:SE X c e fe) (hs:∀ (x:Value),swapsWith e none pos.line X.env=pure false:=by intro _; rfl) (hd:True:=trivial) (h:PS X (.Expr e pos) (zcv (tD c fe))):SS X c (.Expr e pos) (z6s fe):=PS.weak h fun D σ H ⟨δ,k,q⟩=>by
 unfold z6s z54 at q
 rw [z0b] at q
 exact ⟨δ,k,z07 q fun r δ1 q1 v H1 a1 r1=>q1 σ H1 a1⟩
theorem Ok.mutL {σ:St} {δ:Dl} {H:Hp} {i:Nat} {ds ds':List D} {a:Addr} {vs':List V} (k:Ok c σ δ H) (e:δ[i]? = some (some (.own (.lst ds)))) (ea:σ[i]? = some (some (.ref a))) (r:Reps H (Av c σ δ) vs' ds') :
  Aft c σ δ H σ (δ.set i (some (.own (.lst ds')))) (upd H a (.lst vs')):=by
 have hi:i < δ.length:=(List.getElem?_eq_some_iff.mp e).1
 obtain ⟨a',ea',oa,ia,nb⟩:=k.own i _ e
 rw [ea] at ea'; cases ea'
 obtain ⟨vs,ha,_⟩:=oa
 have ownA:Own σ δ a:=⟨i,_,e,ea⟩
 have avA:Av c σ δ a:=.inr ownA
 have own_iff:∀ b,Own σ (δ.set i (some (.own (.lst ds')))) b ↔ Own σ δ b:=fun b=>by
  constructor
  ·rintro ⟨j,d,e1,e2⟩
   by_cases hj:i=j
   ·subst hj
    exact ⟨i,_,e,e2⟩
   ·rw [List.getElem?_set_ne hj] at e1
    exact ⟨j,d,e1,e2⟩
  ·rintro ⟨j,d,e1,e2⟩
   by_cases hj:i=j
   ·subst hj
    exact ⟨i,_,by rw [List.getElem?_set_self hi],e2⟩
   ·exact ⟨j,d,by rw [List.getElem?_set_ne hj]; exact e1,e2⟩
 have av_iff:∀ b,Av c σ (δ.set i (some (.own (.lst ds')))) b→Av c σ δ b:=fun b z=>z.elim .inl fun z=>.inr ((own_iff b).mp z)
 have ne:∀ b,¬ Av c σ δ b→b≠a:=fun b n z=>n (by rw [z]; exact avA)
 have kp:∀ b o,H b=some o→¬ Av c σ δ b→upd H a (.lst vs') b=some o:=fun b o h n=>by rw [z0K (ne b n)]; exact h
 have hup:∀ b o,H b=some o→∃ o',upd H a (.lst vs') b=some o':=fun b o h=>by
  by_cases hb:b=a
  ·exact ⟨_,by rw [hb]; exact z1m⟩
  ·exact ⟨o,by rw [z0K hb]; exact h⟩
 refine ⟨⟨fun b o h n=>?_,fun b z=>?_,fun b z=>?_,by rw [List.length_set]; exact k.len,fun j d h=>?_,fun j d h=>?_,fun j l b d d' h1 h2 h3 h4=>?_,k.pinned⟩,fun b o h n=>?_,fun b z=>.inl ((own_iff b).mp z),hup⟩
 ·have hb:b≠a:=fun z=>by
   subst z
   rcases ia with z | z
   ·exact n z
   ·rw [z] at h; cases h
  rw [z0K hb]
  exact k.keep b o h n
 ·obtain ⟨o,h⟩:=k.bd b z
  exact hup b o h
 ·obtain ⟨o,h⟩:=k.ith b z
  exact hup b o h
 ·have hj:i≠j:=fun z=>by subst z; rw [List.getElem?_set_self hi] at h; cases h
  rw [List.getElem?_set_ne hj] at h
  obtain ⟨v,h1,h2⟩:=k.slot j d h
  exact ⟨v,h1,(h2.keep kp).anti fun b z=>.inl (av_iff b z)⟩
 ·by_cases hj:i=j
  ·subst hj
   rw [List.getElem?_set_self hi] at h
   cases h
   exact ⟨a,ea,⟨vs',z1m,Reps.anti (Reps.keep r kp) fun b z=>.inl (av_iff b z)⟩,ia,nb⟩
  ·rw [List.getElem?_set_ne hj] at h
   obtain ⟨b,h1,h2,h3,h4⟩:=k.own j d h
   have hb:b≠a:=fun z=>by subst z; exact hj (k.inj i j b _ d e h ea h1)
   exact ⟨b,h1,(h2.keep kp fun o q=>by rw [z0K hb]; exact q).anti fun b z=>.inl (av_iff b z),h3,h4⟩
 ·have f1:∃ d,δ[j]? = some (some (.own d)):=by
   by_cases hj:i=j
   ·subst hj; exact ⟨_,e⟩
   ·rw [List.getElem?_set_ne hj] at h1; exact ⟨d,h1⟩
  have f2:∃ d,δ[l]? = some (some (.own d)):=by
   by_cases hj:i=l
   ·subst hj; exact ⟨_,e⟩
   ·rw [List.getElem?_set_ne hj] at h2; exact ⟨d',h2⟩
  obtain ⟨_,f1⟩:=f1
  obtain ⟨_,f2⟩:=f2
  exact k.inj j l b _ _ f1 f2 h3 h4
 ·have hb:b≠a:=fun z=>n (by rw [z]; exact ownA)
  rw [z0K hb]; exact h
def z3K (δ:Dl) (i:Nat):Bool:=match δ[i]? with
 | some (some (.own (.lst _)))=>true
 | _=>false
def putL (δ:Dl) (i:Nat) (f:List D→Option (List D)):Rs Fl:=match δ[i]? with
 | some (some (.own (.lst ds)))=>match f ds with
  | some ds'=>.ok .next (δ.set i (some (.own (.lst ds'))))
  | none=>.stuck
 | _=>.stuck
theorem z8e {δ:Dl} {i:Nat} (h:z3K δ i=true):∃ ds,δ[i]? = some (some (.own (.lst ds))):=by
 unfold z3K at h
 split at h
 ·rename_i ds e; exact ⟨ds,e⟩
 ·cases h
theorem z7V {δ:Dl} {i:Nat} {g:List D→Option (List D)} {kk:Fl→Dl→Prop} (h:post c (putL δ i g) kk):∃ ds ds',δ[i]? = some (some (.own (.lst ds)))∧g ds=some ds'∧kk .next (δ.set i (some (.own (.lst ds')))):=by
 unfold putL at h
 split at h
 ·rename_i ds e
  split at h
  ·rename_i ds' e2
   exact ⟨ds,ds',e,e2,h⟩
  ·exact h.elim
 ·exact h.elim
def z0W (i:Nat) (f:DE):DS:=fun δ=>if z3K δ i then (f δ).bind fun r δ1=>putL δ1 i fun ds=>if ds.length < sizeLine then some (ds ++ [r.d]) else none else .stuck
theorem za0 {i:Nat} {o:Expr} {p0 apos cpos:Pos} (ho:PE X o (tVar i)) (he:SE X c e fe)
  (h:PS X (.Expr (.Call (.Attribute o "append" apos) [e] [] cpos) pos) (zcv (tBM X.K "list" zao (tVar i) (zdG (tD c fe) tNil)))):SS X c (.Expr (.Call (.Attribute o "append" apos) [e] [] cpos) pos) (z0W i fe) :=
 PS.weak h fun D σ H ⟨δ,k,q⟩=>by
  unfold z0W z54 at q
  split at q
  ·rename_i hown
   obtain ⟨ds0,e0⟩:=z8e hown
   rw [z0b] at q
   obtain ⟨a,ea,oa,_⟩:=k.own i _ e0
   refine ⟨.ref a,ea,?_,δ,k,z07 q fun r δ1 q1 v H1 a1 r1=>?_⟩
   ·obtain ⟨vs,ha,_⟩:=oa
    exact .inl ⟨rfl,vs,.of ha⟩
   ·obtain ⟨ds,ds',e1,e2,q2⟩:=z7V q1
    split at e2
    ·rename_i hz
     cases e2
     obtain ⟨a',ea',oa1,_⟩:=a1.ok.own i _ e1
     rw [ea] at ea'; cases ea'
     obtain ⟨vs,ha,ra⟩:=id oa1
     refine ⟨a,vs,v,rfl,rfl,ha,by rw [ra.1]; exact hz,?_⟩
     exact q2 σ _ (a1.trans (Ok.mutL a1.ok e1 ea (ra.append (.cons r1.rep .nil))))
    ·cases e2
  ·exact q.elim
def z8m (i:Nat) (fi:DE) (fe:DE):DS:=fun δ=>if z3K δ i then (fe δ).bind fun r δ1=>(fi δ1).bind fun k δ2=>match k with
 | .pure (.int j)=>putL δ2 i fun ds=>(ixN ds.length j).map fun n=>ds.set n r.d
 | _=>.stuck else .stuck
theorem z8y {i:Nat} {o ix:Expr} {fi:DE} {sp:Pos} (ho:PE X o (tVar i)) (hi:SE X c ix fi) (he:SE X c e fe)
  (ha:∀ v,assign (.Subscript o ix sp) X.env v=(do
   let ov ← holding [v] (eval o X.env)
   let iv ← holding [v,ov] (eval ix X.env)
   standAt sp
   holding [v,ov,iv] (setItem ov iv v)
   release [v,ov,iv] []):=by intro _; rfl)
  (hs:swapsWithSole [.Subscript o ix sp] e pos.line X.env=pure false:=by rfl) (hw:swappedStores [.Subscript o ix sp] e X.env=pure none:=by rfl)
  (h1:(assignEach [.Subscript o ix sp] X.env).map (·.2)=[assign (.Subscript o ix sp) X.env]:=by rfl):SS X c (.Assign [.Subscript o ix sp] e pos) (z8m i fi fe) :=
 PS.weak (zc9 he (zee ho hi zbt ha) hs hw h1) fun D σ H ⟨δ,k,q⟩=>by
  unfold z8m z54 at q
  split at q
  ·rename_i hown
   obtain ⟨ds0,e0⟩:=z8e hown
   rw [z0b] at q
   obtain ⟨a,ea,_,_⟩:=k.own i _ e0
   refine ⟨δ,k,z07 q fun r δ1 q1 v H1 a1 r1=>⟨.ref a,ea,δ1,a1.ok,?_⟩⟩
   rw [z0b] at q1
   refine z07 q1 fun kx δ2 q2 u H2 a2 r2=>?_
   cases kx with
   | own d=>exact q2.elim
   | pure d =>
    cases d <;> first | exact q2.elim | skip
    rename_i j
    cases r2
    obtain ⟨ds,ds',e1,e2,q3⟩:=z7V q2
    cases e3:ixN ds.length j with
    | none=>rw [e3] at e2; cases e2
    | some n =>
     rw [e3] at e2
     cases e2
     obtain ⟨a',ea',oa1,_⟩:=a2.ok.own i _ e1
     rw [ea] at ea'; cases ea'
     obtain ⟨vs,ha,ra⟩:=id oa1
     refine ⟨a,vs,j,n,rfl,rfl,ha,by rw [ra.1]; exact e3,?_⟩
     exact q3 σ _ (a1.trans (a2.trans (Ok.mutL a2.ok e1 ea (ra.set (Rep.aft r1.rep a2) n))))
  ·exact q.elim
end
open PySem PySem.Spec PyProof.Rows L2
abbrev DI:=Dl→Rs (List D)
def ItOk (c:Fc) (σ:St) (δ:Dl) (H:Hp) (J:It) (ds:List D):Prop:=∀ H2,(∀ a o,H a=some o→¬ Own σ δ a→H2 a=some o)→J.stop ds.length H2 ∧
 ∀ (i:Nat) d,ds[i]? = some d→J.go i H2∧∀ x H3,J.yld i H2 x H3→(H3=H2∧Rep H (Av c σ δ) x d) ∨
  ∃ p vs es,H2 p=none∧H3=upd H2 p (.tup vs)∧x = .ref p∧d = .tup es∧Reps H (Av c σ δ) vs es
def tI (c:Fc) (f:DI):TI:=fun σ H R=>∃ δ,Ok c σ δ H∧post c (f δ) fun ds δ'=>∀ J H',Aft c σ δ H σ δ' H'→ItOk c σ δ' H' J ds→R J H'
abbrev SI (X:Cx) (c:Fc) (tg iter:Expr) (f:DI):Prop:=PI X tg iter (tI c f)
theorem PI.weak {X:Cx} {tg iter:Expr} {t t':TI} (h:PI X tg iter t) (w:∀ σ H R,t' σ H R→t σ H R):PI X tg iter t':=fun pins s σ H R I q=>h pins s σ H R I (w σ H R q)
section
variable {X:Cx} {c:Fc} {tg e:Expr} {fe:DE} {pos pp:Pos}
theorem zeN {σ:St} {δ:Dl} {H:Hp} {a:Addr} {vs:List V} {ds:List D} (K:PySem.W.Frag) (h:H a=some (.tup vs)) (n:¬ Own σ δ a) (r:Reps H (Av c σ δ) vs ds):ItOk c σ δ H (Itt K a) ds:=by
 intro H2 kp
 have h2:=kp a _ h n
 refine ⟨⟨vs,.of h2,by rw [r.1]; exact Nat.le_refl _⟩,fun i d e=>?_⟩
 obtain ⟨v,ev,rv⟩:=r.get e
 refine ⟨⟨vs,v,.of h2,ev⟩,fun x H3 ⟨e3,y⟩=>.inl ⟨e3,?_⟩⟩
 have:=y vs (.of h2)
 rw [ev] at this
 cases this
 exact rv
def z1g (lo:Int) (n:Nat):List D:=(List.range n).map fun k:Nat=>D.int (lo + k)
theorem z9B {lo:Int} {n i:Nat} {d:D} (h:(z1g lo n)[i]? = some d):i < n∧d = .int (lo + i):=by
 unfold z1g at h
 rw [List.getElem?_map] at h
 by_cases hi:i < n
 ·rw [List.getElem?_range hi] at h
  simp at h
  exact ⟨hi,h.symm⟩
 ·rw [List.getElem?_eq_none (by simpa using hi)] at h
  cases h
theorem zbM {σ:St} {δ:Dl} {H:Hp} (lo:Int) (n:Nat):ItOk c σ δ H (Itr lo n) (z1g lo n):=by
 intro H2 kp
 refine ⟨by show n≤(z1g lo n).length; simp [z1g],fun i d e=>?_⟩
 obtain ⟨hi,rfl⟩:=z9B e
 exact ⟨hi,fun x H3 ⟨e3,ex⟩=>.inl ⟨e3,by rw [ex]; exact .int _⟩⟩
def z6B (j:Int):Bool:=decide (-(2 ^ 62)≤j) && decide (j < 2 ^ 62)
def z0S (f:DE):DI:=fun δ=>(f δ).bind fun r δ1=>match r with
 | .pure (.int j)=>if z6B j then .ok (z1g 0 j.toNat) δ1 else .stuck
 | _=>.stuck
theorem z2c (hg:Gl X "range") (hm:X.mg "range" = none) (he:SE X c e fe) (hs:starEach [e] X.env=[(false,eval e X.env)]:=by rfl):SI X c tg (.Call (.Name "range" pp) [e] [] pos) (z0S fe) :=
 PI.weak (zav hg hm (z2s he z4f hs) hs) fun σ H R ⟨δ,k,q⟩=>by
  unfold z0S at q
  rw [z0b] at q
  refine ⟨δ,k,z07 q fun r δ1 q1 v H1 a1 r1=>?_⟩
  cases r with
  | own d=>exact q1.elim
  | pure d =>
   cases d <;> first | exact q1.elim | skip
   rename_i j
   cases r1
   simp only at q1
   split at q1
   ·rename_i hj
    unfold z6B at hj
    simp only [Bool.and_eq_true,decide_eq_true_eq] at hj
    exact ⟨j,rfl,hj.1,hj.2,q1 _ H1 a1 (zbM 0 j.toNat)⟩
   ·exact q1.elim
def forL (g:DG) (b:DS):List D→DS
 | [],δ=>.ok .next δ
 | d :: r,δ=>match g (.pure d) δ with
  | none=>.stuck
  | some δ1=>(b δ1).bind fun fl δ2=>match fl with
   | .next=>forL g b r δ2
   | .cont=>forL g b r δ2
   | .brk=>.ok .next δ2
   | .ret v=>.ok (.ret v) δ2
def dFor (it:DI) (g:DG) (b:DS):DS:=fun δ=>(it δ).bind fun ds δ1=>forL g b ds δ1
theorem z8Z {J:It} {σ σ2:St} {δ δ2:Dl} {H H2 H3:Hp} {ds:List D} {i:Nat} {d:D} {x:V} (io:ItOk c σ δ H J ds) (a:Aft c σ δ H σ2 δ2 H2) (e:ds[i]? = some d) (y:J.yld i H2 x H3):Aft c σ2 δ2 H2 σ2 δ2 H3∧Rep H3 (Av c σ2 δ2) x d:=by
 obtain ⟨_,t⟩:=io H2 a.keep
 rcases (t i d e).2 x H3 y with ⟨e3,r⟩ | ⟨p,vs,es,hp,e3,ex,ed,r⟩
 ·subst e3
  exact ⟨.refl a.ok,Rep.aft r a⟩
 ·subst e3 ex ed
  have:=RepS.newT a.ok (Reps.aft r a) hp
  exact ⟨.alloc a.ok hp _,this⟩
theorem z2O {iter:Expr} {body:List Stmt} {it:DI} {g:DG} {b:DS} (hp:PassesOwn (model X.prog X.w) X.A X.env X.xe) (hc:X.calm=true) (hi:SI X c tg iter it) (hg:SG X c tg g) (hb:SSs X c body b)
  (hs:∀ x,foldedSetIterable iter X.env x=pure x:=by intro _; rfl):SS X c (.For tg iter body [] pos) (dFor it g b):=PS.weak (zed hp hc hi hg hb hs) fun D σ H ⟨δ,k,q⟩=>by
 unfold dFor z54 at q
 rw [z0b] at q
 refine ⟨δ,k,z07 q fun ds δ1 q1 J H1 a1 io=>?_⟩
 refine ⟨fun i m σ2 H2=>∃ δ2,m=ds.length - i∧i≤ds.length∧Aft c σ δ1 H1 σ2 δ2 H2∧z54 c D σ2 δ2 H2 (forL g b (ds.drop i) δ2),⟨ds.length,δ1,by simp,Nat.zero_le _,.refl a1.ok,?_⟩,?_⟩
 ·rw [List.drop_zero]
  exact z07 q1 fun fl δ2 q2 σ2 H2 a2=>q2 σ2 H2 (a1.trans a2)
 ·rintro i m σ2 H2 ⟨δ2,rfl,hil,a2,p2⟩
  by_cases hlt:i < ds.length
  ·right
   have e:ds[i]? = some ds[i]:=by simp [hlt]
   rw [List.drop_eq_getElem_cons hlt] at p2
   refine ⟨((io H2 a2.keep).2 i _ e).1,fun σ4 H4=>∃ δ4,Aft c σ δ1 H1 σ4 δ4 H4∧z54 c D σ4 δ4 H4 (forL g b (ds.drop (i + 1)) δ4),fun σ4 H4 ⟨δ4,a4,p4⟩=>⟨ds.length - (i + 1),by omega,δ4,rfl,hlt,a4,p4⟩,fun x H3 y=>?_⟩
   obtain ⟨a3,r3⟩:=z8Z io a2 e y
   simp only [forL,z54] at p2
   cases eg:g (.pure ds[i]) δ2 with
   | none=>rw [eg] at p2; exact p2.elim
   | some δ3 =>
    rw [eg] at p2
    refine ⟨σ2,δ2,H3,δ2,.pure ds[i],δ3,.refl a3.ok,r3,eg,fun σ3 a3'=>?_⟩
    have p3:post c ((b δ3).bind fun fl δ2=>match fl with
     | .next=>forL g b (ds.drop (i + 1)) δ2
     | .cont=>forL g b (ds.drop (i + 1)) δ2
     | .brk=>.ok .next δ2
     | .ret v=>.ok (.ret v) δ2) fun fl δ'=>∀ σ' H',Aft c σ2 δ2 H2 σ' δ' H'→fin c D σ' δ' H' fl:=p2
    rw [z0b] at p3
    have a23:Aft c σ2 δ2 H2 σ3 δ3 H3:=a3.trans a3'
    refine ⟨δ3,a3'.ok,z07 p3 fun fl δ4 p4 σ4 H4 a4=>?_⟩
    have a24:=a23.trans a4
    cases fl with
    | next=>exact ⟨δ4,a2.trans a24,z07 p4 fun fl δ5 p5 σ5 H5 a5=>p5 σ5 H5 (a24.trans a5)⟩
    | cont=>exact ⟨δ4,a2.trans a24,z07 p4 fun fl δ5 p5 σ5 H5 a5=>p5 σ5 H5 (a24.trans a5)⟩
    | brk=>exact p4 σ4 H4 a24
    | ret r=>exact p4 σ4 H4 a24
  ·left
   have hi2:i=ds.length:=by omega
   subst hi2
   rw [List.drop_length] at p2
   exact ⟨(io H2 a2.keep).1,p2 σ2 H2 (.refl a2.ok)⟩
end
open PySem PySem.Spec PyProof.Rows L2
def clrD (cs:List Nat) (δ:Dl):Dl:=cs.foldl (fun δ i=>δ.set i none) δ
def z20 (cs:List Nat) (δ₁ δ:Dl):Dl:=cs.foldl (fun δ i=>match δ₁[i]? with | some o=>δ.set i o | none=>δ) δ
def z0x (δ:Dl) (i:Nat):Bool:=match δ[i]? with
 | some (some (.own _))=>true
 | _=>false
theorem z9u (cs:List Nat):∀ δ:Dl,(clrD cs δ).length=δ.length:=by
 induction cs with
 | nil=>intro δ; rfl
 | cons i r ih =>
  intro δ
  show (clrD r (δ.set i none)).length=_
  rw [ih]; simp
theorem z2e:∀ (cs:List Nat) (δ:Dl) (i:Nat) (v:S),(clrD cs δ)[i]? = some (some v)→δ[i]? = some (some v)∧i ∉ cs:=by
 intro cs
 induction cs with
 | nil=>intro δ i v h; exact ⟨h,by simp⟩
 | cons j r ih =>
  intro δ i v h
  have h':(clrD r (δ.set j none))[i]? = some (some v):=h
  obtain ⟨h1,h2⟩:=ih _ i v h'
  by_cases e:j=i
  ·subst e
   rw [List.getElem?_set] at h1
   simp at h1
  ·rw [List.getElem?_set_ne e] at h1
   exact ⟨h1,by simp only [List.mem_cons,not_or]; exact ⟨Ne.symm e,h2⟩⟩
theorem z3D:∀ (cs:List Nat) (σ:St) (i:Nat),i ∉ cs→(clr cs σ)[i]? = σ[i]?:=by
 intro cs
 induction cs with
 | nil=>intro σ i _; rfl
 | cons j r ih =>
  intro σ i h
  simp only [List.mem_cons,not_or] at h
  show (clr r (σ.set j none))[i]? = _
  rw [ih _ _ h.2,List.getElem?_set_ne (Ne.symm h.1)]
theorem zbV:∀ (cs:List Nat) (δ:Dl) (i:Nat),i ∉ cs→(clrD cs δ)[i]? = δ[i]?:=by
 intro cs
 induction cs with
 | nil=>intro σ i _; rfl
 | cons j r ih =>
  intro σ i h
  simp only [List.mem_cons,not_or] at h
  show (clrD r (σ.set j none))[i]? = _
  rw [ih _ _ h.2,List.getElem?_set_ne (Ne.symm h.1)]
theorem zbm (cs:List Nat) (δ₁:Dl):∀ δ:Dl,(z20 cs δ₁ δ).length=δ.length:=by
 induction cs with
 | nil=>intro δ; rfl
 | cons i r ih =>
  intro δ
  unfold z20
  rw [List.foldl_cons]
  have:=ih (match δ₁[i]? with | some o=>δ.set i o | none=>δ)
  unfold z20 at this
  rw [this]
  cases δ₁[i]? <;> simp
theorem z4Z:∀ (cs:List Nat) (δ₁ δ:Dl) (i:Nat),i ∉ cs→(z20 cs δ₁ δ)[i]? = δ[i]?:=by
 intro cs δ₁
 induction cs with
 | nil=>intro δ i _; rfl
 | cons j r ih =>
  intro δ i h
  simp only [List.mem_cons,not_or] at h
  unfold z20
  rw [List.foldl_cons]
  have:=ih (match δ₁[j]? with | some o=>δ.set j o | none=>δ) i h.2
  unfold z20 at this
  rw [this]
  cases δ₁[j]? with
  | none=>rfl
  | some o=>simp only; rw [List.getElem?_set_ne (Ne.symm h.1)]
theorem z7B:∀ (cs:List Nat) (δ₁ δ:Dl) (i:Nat),δ₁.length=δ.length→i ∈ cs→(z20 cs δ₁ δ)[i]? = δ₁[i]?:=by
 intro cs δ₁
 induction cs with
 | nil=>intro δ i _ h; simp at h
 | cons j r ih =>
  intro δ i hl h
  unfold z20
  rw [List.foldl_cons]
  have hl2:δ₁.length=(match δ₁[j]? with | some o=>δ.set j o | none=>δ).length:=by cases δ₁[j]? <;> simp [hl]
  by_cases hr:i ∈ r
  ·have:=ih (match δ₁[j]? with | some o=>δ.set j o | none=>δ) i hl2 hr
   unfold z20 at this
   exact this
  ·have e:i=j:=by
    rcases List.mem_cons.mp h with e | e
    ·exact e
    ·exact absurd e hr
   subst e
   have:=z4Z r δ₁ (match δ₁[i]? with | some o=>δ.set i o | none=>δ) i hr
   unfold z20 at this
   rw [this]
   cases e:δ₁[i]? with
   | none =>
    simp only
    have:=List.getElem?_eq_none_iff.mp e
    exact List.getElem?_eq_none (by omega)
   | some o =>
    simp only
    have:=(List.getElem?_eq_some_iff.mp e).1
    rw [List.getElem?_set_self (by omega)]
section
variable {c:Fc} {σ:St} {δ δ':Dl} {H H':Hp} {l:Addr} {cs:List Nat}
theorem Ok.less (k:Ok (c.plus l) σ δ H):Ok c σ δ H:=by
 have sub:∀ b,Av c σ δ b→Av (c.plus l) σ δ b:=fun b z=>z.elim (fun z=>.inl (.inl z)) .inr
 refine ⟨k.keep,fun a z=>k.bd a (.inl z),k.ith,k.len,fun i d e=>?_,fun i d e=>?_,k.inj,k.pinned⟩
 ·obtain ⟨v,h1,h2⟩:=k.slot i d e
  exact ⟨v,h1,h2.anti fun b z=>.inl (sub b z)⟩
 ·obtain ⟨a,h1,h2,h3,h4⟩:=k.own i d e
  exact ⟨a,h1,h2.anti fun b z=>.inl (sub b z),h3,fun z=>h4 (.inl z)⟩
theorem Ok.updB (k:Ok c σ δ H) (hb:c.B l) (h0:c.H₀ l=none) (o:HO):Ok c σ δ (upd H l o):=by
 have kp:∀ b w,H b=some w→¬ Av c σ δ b→upd H l o b=some w:=fun b w e n=>by
  rw [z0K (fun z=>n (by rw [z]; exact .inl hb))]; exact e
 have hup:∀ b w,H b=some w→∃ w',upd H l o b=some w':=fun b w h=>by
  by_cases hb:b=l
  ·exact ⟨_,by rw [hb]; exact z1m⟩
  ·exact ⟨w,by rw [z0K hb]; exact h⟩
 refine ⟨fun a w e n=>?_,fun a z=>?_,fun a z=>?_,k.len,fun i d e=>?_,fun i d e=>?_,k.inj,k.pinned⟩
 ·have:a≠l:=fun z=>by rw [z,h0] at e; cases e
  rw [z0K this]; exact k.keep a w e n
 ·obtain ⟨w,e⟩:=k.bd a z; exact hup a w e
 ·obtain ⟨w,e⟩:=k.ith a z; exact hup a w e
 ·obtain ⟨v,h1,h2⟩:=k.slot i d e
  exact ⟨v,h1,h2.keep kp⟩
 ·obtain ⟨a,h1,h2,h3,h4⟩:=k.own i d e
  have:a≠l:=fun z=>h4 (by rw [z]; exact hb)
  exact ⟨a,h1,h2.keep kp fun w q=>by rw [z0K this]; exact q,h3,h4⟩
theorem Own.clr (h:Own (clr cs σ) (clrD cs δ) l):Own σ δ l:=by
 obtain ⟨i,d,e1,e2⟩:=h
 exact ⟨i,d,(z2e cs δ i _ e1).1,(z3Z cs σ i _ e2).1⟩
theorem Ok.clr (k:Ok c σ δ H) (hp:∀ p ∈ c.pin,p.1 ∉ cs):Ok c (L2.clr cs σ) (clrD cs δ) H:=by
 have sub:∀ b,Av c (L2.clr cs σ) (clrD cs δ) b→Av c σ δ b:=fun b z=>z.elim .inl fun z=>.inr z.clr
 refine ⟨k.keep,k.bd,k.ith,by rw [z9u,z7y]; exact k.len,fun i d e=>?_,fun i d e=>?_,fun i j a d d' e1 e2 e3 e4=>?_,fun p hm=>?_⟩
 ·obtain ⟨e',hi⟩:=z2e cs δ i _ e
  obtain ⟨v,h1,h2⟩:=k.slot i d e'
  exact ⟨v,by rw [z3D cs σ i hi]; exact h1,h2.anti fun b z=>.inl (sub b z)⟩
 ·obtain ⟨e',hi⟩:=z2e cs δ i _ e
  obtain ⟨a,h1,h2,h3⟩:=k.own i d e'
  exact ⟨a,by rw [z3D cs σ i hi]; exact h1,h2.anti fun b z=>.inl (sub b z),h3⟩
 ·exact k.inj i j a d d' (z2e cs δ i _ e1).1 (z2e cs δ j _ e2).1 (z3Z cs σ i _ e3).1 (z3Z cs σ j _ e4).1
 ·rw [z3D cs σ _ (hp p hm)]; exact k.pinned p hm
theorem Aft.back {c₀:Fc} (k:Ok c₀ σ δ H) (hpin:c.pin=c₀.pin) (hB:∀ b,c.B b→c₀.B b∨H b=none) (hno:cs.any (z0x δ)=false) (x:Aft c (L2.clr cs σ) (clrD cs δ) H (L2.clr cs σ) δ' H'):Aft c σ δ H σ (z20 cs δ δ') H':=by
 have len:δ.length=δ'.length:=by
  have:=x.ok.len
  rw [z7y] at this
  rw [this]; exact k.len
 have nown:∀ i d,i ∈ cs→δ[i]?≠some (some (.own d)):=fun i d hi e=>by
  have:=List.any_eq_false.mp hno i hi
  unfold z0x at this
  rw [e] at this
  simp at this
 have ownOut:∀ i d,(z20 cs δ δ')[i]? = some (some (.own d))→i ∉ cs∧δ'[i]? = some (some (.own d)):=fun i d e=>by
  by_cases hi:i ∈ cs
  ·rw [z7B cs δ δ' i len hi] at e
   exact absurd e (nown i d hi)
  ·rw [z4Z cs δ δ' i hi] at e
   exact ⟨hi,e⟩
 have sub:∀ b,Own σ (z20 cs δ δ') b→Own (L2.clr cs σ) δ' b:=fun b ⟨i,d,e1,e2⟩=>by
  obtain ⟨hi,e⟩:=ownOut i d e1
  exact ⟨i,d,e,by rw [z3D cs σ i hi]; exact e2⟩
 have subA:∀ b,Av c σ (z20 cs δ δ') b→Av c (L2.clr cs σ) δ' b:=fun b z=>z.elim .inl fun z=>.inr (sub b z)
 have ownEq:∀ b,Own σ δ b→Own (L2.clr cs σ) (clrD cs δ) b:=fun b ⟨i,d,e1,e2⟩=>by
  have hi:i ∉ cs:=fun z=>nown i d z e1
  exact ⟨i,d,by rw [zbV cs δ i hi]; exact e1,by rw [z3D cs σ i hi]; exact e2⟩
 refine ⟨⟨x.ok.keep,x.ok.bd,x.ok.ith,by rw [zbm,← len]; exact k.len,fun i d e=>?_,fun i d e=>?_,fun i j a d d' e1 e2 e3 e4=>?_,by rw [hpin]; exact k.pinned⟩,fun a o e n=>?_,fun a z=>?_,x.there⟩
 ·by_cases hi:i ∈ cs
  ·rw [z7B cs δ δ' i len hi] at e
   obtain ⟨v,h1,h2⟩:=k.slot i d e
   have h3:Rep H (Av c (L2.clr cs σ) (clrD cs δ)) v d:=h2.anti fun b z=>by
    rcases z with z | z
    ·exact (hB b z).elim (fun z=>.inl (.inl z)) .inr
    ·exact .inl (.inr z.clr)
   exact ⟨v,h1,(Rep.aft h3 x).anti fun b z=>.inl (subA b z)⟩
  ·rw [z4Z cs δ δ' i hi] at e
   obtain ⟨v,h1,h2⟩:=x.ok.slot i d e
   exact ⟨v,(z3Z cs σ i v h1).1,h2.anti fun b z=>.inl (subA b z)⟩
 ·obtain ⟨hi,e'⟩:=ownOut i d e
  obtain ⟨a,h1,h2,h3⟩:=x.ok.own i d e'
  exact ⟨a,(z3Z cs σ i _ h1).1,h2.anti fun b z=>.inl (subA b z),h3⟩
 ·obtain ⟨hi,f1⟩:=ownOut i d e1
  obtain ⟨hj,f2⟩:=ownOut j d' e2
  exact x.ok.inj i j a d d' f1 f2 (by rw [z3D cs σ i hi]; exact e3) (by rw [z3D cs σ j hj]; exact e4)
 ·exact x.keep a o e fun z=>n z.clr
 ·rcases x.own a (sub a z) with q | q
  ·exact .inl q.clr
  ·exact .inr q
end
def z2F (cs:List Nat) (g:DG) (t:DT) (el:DE):List D→Dl→List D→Rs (List D)
 | [],δ,acc=>.ok acc δ
 | d :: r,δ,acc=>match g (.pure d) δ with
  | none=>.stuck
  | some δ1=>(t δ1).bind fun b δ2=>if b then (el δ2).bind fun x δ3=>if acc.length < sizeLine then z2F cs g t el r (clrD cs δ3) (acc ++ [x.d]) else .stuck
   else z2F cs g t el r (clrD cs δ2) acc
def z28 (cs:List Nat) (it:DI) (g:DG) (t:DT) (el:DE):DE:=fun δ=>(it δ).bind fun ds δ1=>if cs.any (z0x δ1) then .stuck else
 (z2F cs g t el ds (clrD cs δ1) []).bind fun acc δ2=>.ok (.own (.lst acc)) (z20 cs δ1 δ2)
def dYes:DT:=fun δ=>.ok true δ
abbrev STs (X:Cx) (c:Fc) (ifs:List Expr) (t:DT):Prop:=PTs X ifs (tT c t)
theorem z2r {X:Cx} {c:Fc}:STs X c [] dYes:=fun pins s σ H Q I ⟨δ,k,q⟩=>zcV pins s σ H Q I (q H (.refl k))
section
variable {X:Cx} {c:Fc} {cs:List Nat} {tg iter elt:Expr} {ifs:List Expr} {scope:Scope} {pos:Pos} {it:DI} {g:DG} {t:DT} {el:DE}
theorem Aft.clear {σ σ4:St} {δ δ4:Dl} {H H4:Hp} (x:Aft c (L2.clr cs σ) δ H σ4 δ4 H4) (le:Le (L2.clr cs σ) σ4) (hp:∀ p ∈ c.pin,p.1 ∉ cs) (hs:∀ (i:Nat) v,σ4[i]? = some (some v)→i ∉ cs→σ[i]? = some (some v)):Aft c (L2.clr cs σ) δ H (L2.clr cs σ) (clrD cs δ4) H4:=by
 have eq:∀ i,i ∉ cs→∀ v,σ4[i]? = some (some v)→(L2.clr cs σ)[i]? = some (some v):=fun i hi v e=>by rw [z3D cs σ i hi]; exact hs i v e hi
 have own:∀ b,Own (L2.clr cs σ) (clrD cs δ4) b→Own σ4 δ4 b:=fun b ⟨i,d,e1,e2⟩=>by
  exact ⟨i,d,(z2e cs δ4 i _ e1).1,le.2 i _ e2⟩
 have sub:∀ b,Av c (L2.clr cs σ) (clrD cs δ4) b→Av c σ4 δ4 b:=fun b z=>z.elim .inl fun z=>.inr (own b z)
 have k:=x.ok
 refine ⟨⟨k.keep,k.bd,k.ith,by rw [z9u,k.len]; exact le.1,fun i d e=>?_,fun i d e=>?_,fun i j a d d' e1 e2 e3 e4=>?_,fun p hm=>?_⟩,x.keep,fun a z=>x.own a (own a z),x.there⟩
 ·obtain ⟨e',hi⟩:=z2e cs δ4 i _ e
  obtain ⟨v,h1,h2⟩:=k.slot i d e'
  exact ⟨v,eq i hi v h1,h2.anti fun b z=>.inl (sub b z)⟩
 ·obtain ⟨e',hi⟩:=z2e cs δ4 i _ e
  obtain ⟨a,h1,h2,h3⟩:=k.own i d e'
  exact ⟨a,eq i hi _ h1,h2.anti fun b z=>.inl (sub b z),h3⟩
 ·exact k.inj i j a d d' (z2e cs δ4 i _ e1).1 (z2e cs δ4 j _ e2).1 (le.2 i _ e3) (le.2 j _ e4)
 ·exact eq p.1 (hp p hm) _ (k.pinned p hm)
def Out (cs:List Nat) (σ σ':St):Prop:=σ'.length=σ.length∧∀ i,i ∉ cs→σ'[i]? = σ[i]?
theorem Out.trans {σ σ' σ'':St} (a:Out cs σ σ') (b:Out cs σ' σ''):Out cs σ σ'':=⟨b.1.trans a.1,fun i h=>(b.2 i h).trans (a.2 i h)⟩
def tGC (cs:List Nat) (c:Fc) (g:DG):TG:=fun v σ H Q=>∃ σ₀ δ₀ H₁ δ r δ',Aft c σ₀ δ₀ H₁ σ δ H∧RepS c σ δ H₁ H v r∧g r δ=some δ'∧∀ σ',Aft c σ₀ δ₀ H₁ σ' δ' H→Out cs σ σ'→Q σ' H
abbrev SGC (X:Cx) (c:Fc) (cs:List Nat) (tg:Expr) (g:DG):Prop:=PG X tg (tGC cs c g)
theorem z1K {np:List Nat} {i:Nat} {x:Str} (hp:Np c np) (hN:X.N.Nodup) (hi:X.N[i]? = some x) (hx:Loc X.env.scope x) (hf:X.fn x=true∨X.env.scope.names.lookup x=some .local) (hc:i ∈ cs):SGC X c cs (.Name x pos) (gNm np i) :=
 PG.weak (zax hN hi hx hf) fun v σ H Q ⟨σ₀,δ₀,H₁,δ,r,δ',x,rr,e,q⟩=>by
  unfold gNm at e
  split at e
  ·cases e
  ·rename_i hn
   cases e
   refine q _ (Ok.set x rr fun p hm e=>hn (by rw [← e]; exact hp p hm)) ⟨by simp,fun j hj=>?_⟩
   rw [List.getElem?_set_ne (fun z=>hj (by rw [← z]; exact hc))]
def tGCs (cs:List Nat) (c:Fc) (g:DGs):TGs:=fun vs σ H Q=>∃ δ ds δ',Ok c σ δ H∧Reps H (Av c σ δ) vs ds∧g ds δ=some δ'∧∀ σ',Aft c σ δ H σ' δ' H→Out cs σ σ'→Q σ' H
abbrev SGCs (X:Cx) (c:Fc) (cs:List Nat) (tg:List Expr) (g:DGs):Prop:=PGs X tg (tGCs cs c g)
theorem zbs:SGCs X c cs [] z1F:=PGs.weak zaw fun vs σ H Q ⟨δ,ds,δ',k,r,e,q⟩=>by
 cases ds with
 | nil =>
  cases e
  have:vs=[]:=by have:=r.1; simpa using this
  exact ⟨this,q σ (.refl k) ⟨rfl,fun _ _=>rfl⟩⟩
 | cons d r=>cases e
theorem z7K {e:Expr} {es:List Expr} {g:DG} {gs:DGs} (h1:SGC X c cs e g) (h2:SGCs X c cs es gs) (hs:(assignEach (e :: es) X.env).map (·.2)=assign e X.env :: (assignEach es X.env).map (·.2):=by rfl):SGCs X c cs (e :: es) (z0i g gs) :=
 PGs.weak (z98 h1 h2 hs) fun vs σ H Q ⟨δ,ds,δ',k,r,e,q⟩=>by
  cases ds with
  | nil=>cases e
  | cons d ds =>
   cases vs with
   | nil=>have:=r.1; simp at this
   | cons v vs =>
    simp only [z0i] at e
    cases e1:g (.pure d) δ with
    | none=>rw [e1] at e; cases e
    | some δ1 =>
     rw [e1] at e
     refine ⟨v,vs,rfl,σ,δ,H,δ,.pure d,δ1,.refl k,r.head,e1,fun σ1 a1 o1=>?_⟩
     exact ⟨δ1,ds,δ',a1.ok,Reps.aft r.tail a1,e,fun σ2 a2 o2=>q σ2 (a1.trans a2) (o1.trans o2)⟩
theorem zcF {es:List Expr} {k:Nat} {gs:DGs} {n:Nat} (hc:X.calm=true) (h:SGCs X c cs es gs) (hn:(assignEach es X.env).length=n:=by rfl) (hst:(assignEach es X.env).findIdx? (·.1)=none:=by rfl) :
  SGC X c cs (.Tuple es k pos) (gTp n gs):=PG.weak (zca hc h hn hst) fun v σ H Q hw=>by
 obtain ⟨σ₀,δ₀,H₁,δ,r,δ',x,rr,e,q⟩:=hw
 have hb:=rr.b
 unfold gTp at e
 generalize r.d=d at e hb
 cases d <;> first | (cases e; done) | skip
 rename_i ds
 simp only at e
 split at e
 ·rename_i hl
  obtain ⟨a,vs,ea,ha,ra⟩:=hb.tup
  exact ⟨a,vs,ea,.of ha,by rw [ra.1]; exact hl,δ,ds,δ',x.ok,ra,e,fun σ' a1 o1=>q σ' (x.trans a1) o1⟩
 ·cases e
theorem Aft.less {l:Addr} {σ σ':St} {δ δ':Dl} {H H':Hp} (x:Aft (c.plus l) σ δ H σ' δ' H'):Aft c σ δ H σ' δ' H':=⟨x.ok.less,x.keep,x.own,x.there⟩
theorem z8n {wi:TI} {gt:TG} {tt:TT} {te:TE} (hwi:∀ σ H R,tI c it σ H R→wi σ H R) (hg:∀ l v σ H Q,tGC cs (c.plus l) g v σ H Q→gt v σ H Q) (ht:∀ l σ H Q,tT (c.plus l) t σ H Q→tt σ H Q) (he:∀ l σ H Q,tD (c.plus l) el σ H Q→te σ H Q)
  (hp:∀ p ∈ c.pin,p.1 ∉ cs) {σ:St} {H:Hp} {Q:VK} (h:tD c (z28 cs it g t el) σ H Q):zcw cs wi gt tt te σ H Q:=by
 obtain ⟨δ,k,q⟩:=h
 unfold z28 at q
 rw [z0b] at q
 refine hwi _ _ _ ⟨δ,k,z07 q fun ds δ1 q1 J H1 a1 io=>?_⟩
 intro l hl
 split at q1
 ·exact q1.elim
 ·rename_i hno
  have hno':cs.any (z0x δ1)=false:=by simpa using hno
  rw [z0b] at q1
  have k1:=a1.ok
  have kp:=k1.plus hl (.lst [])
  have k0:Ok (c.plus l) (L2.clr cs σ) (clrD cs δ1) (upd H1 l (.lst [])):=kp.clr hp
  have up:∀ a w,H1 a=some w→upd H1 l (.lst []) a=some w:=fun a w e=>by
   rw [z0K (z14 e hl)]; exact e
  have h0:c.H₀ l=none:=k1.fresh₀ hl
  -- the walked things,as the block sees them
  have io':ItOk (c.plus l) (L2.clr cs σ) (clrD cs δ1) H1 J ds:=by
   intro H2 kp2
   obtain ⟨s1,s2⟩:=io H2 fun a o e n=>kp2 a o e fun z=>n z.clr
   have cv:∀ {x:V} {d:D},Rep H1 (Av c σ δ1) x d→Rep H1 (Av (c.plus l) (L2.clr cs σ) (clrD cs δ1)) x d:=fun {x d} r =>
    r.anti fun b z=>by
     rcases z with (z | z) | z
     ·exact .inl (.inl z)
     ·exact .inr (by rw [z]; exact hl)
     ·exact .inl (.inr z.clr)
   refine ⟨s1,fun i d e=>⟨(s2 i d e).1,fun x H3 y=>?_⟩⟩
   rcases (s2 i d e).2 x H3 y with ⟨e3,r⟩ | ⟨p,vs,es,hp,e3,ex,ed,r⟩
   ·exact .inl ⟨e3,cv r⟩
   ·exact .inr ⟨p,vs,es,hp,e3,ex,ed,r.1,fun i v d e1 e2=>cv (r.2 i v d e1 e2)⟩
  let Fin:List D→Dl→Prop:=fun acc δ'=>∀ H' vs,Aft (c.plus l) (L2.clr cs σ) (clrD cs δ1) H1 (L2.clr cs σ) δ' H'→H' l=some (.lst vs)→Reps H' (Av (c.plus l) (L2.clr cs σ) δ') vs acc→Q (.ref l) H'
  have q2:post c (z2F cs g t el ds (clrD cs δ1) []) Fin:=z07 q1 fun acc δ2 q2 H' vs x hv r=>by
   have b1:Aft (c.plus l) σ δ1 H1 σ (z20 cs δ1 δ2) H':=Aft.back k1 rfl (fun b z=>z.elim .inl fun z=>.inr (by rw [z]; exact hl)) hno' x
   have b2:Aft c σ δ1 H1 σ (z20 cs δ1 δ2) H':=b1.less
   have len:δ1.length=δ2.length:=by
    have:=x.ok.len
    rw [z7y] at this
    rw [this]; exact k1.len
   have hlH:H l=none:=by
    cases e:H l with
    | none=>rfl
    | some o =>
     obtain ⟨o',e'⟩:=a1.there l o e
     rw [hl] at e'; cases e'
   refine q2 _ H' (a1.trans b2) ⟨l,rfl,⟨vs,hv,Reps.anti r fun b z=>.inl ?_⟩,fun z=>k1.nav hl (.inl z),h0,b1.ok,hlH⟩
   rcases z with z | ⟨i,d,e1,e2⟩
   ·exact .inl z
   ·have hi:i ∉ cs:=fun hi=>by
     rw [z7B cs δ1 δ2 i len hi] at e1
     have:=List.any_eq_false.mp hno' i hi
     unfold z0x at this
     rw [e1] at this
     simp at this
    rw [z4Z cs δ1 δ2 i hi] at e1
    exact .inr ⟨i,d,e1,by rw [z3D cs σ i hi]; exact e2⟩
  refine ⟨fun i m H2=>∃ δ2 acc vs,m=ds.length - i∧i≤ds.length∧Aft (c.plus l) (L2.clr cs σ) (clrD cs δ1) H1 (L2.clr cs σ) δ2 H2∧H2 l=some (.lst vs)∧Reps H2 (Av (c.plus l) (L2.clr cs σ) δ2) vs acc ∧
   post c (z2F cs g t el (ds.drop i) δ2 acc) Fin,⟨ds.length,clrD cs δ1,[],[],by simp,Nat.zero_le _,⟨k0,fun a w e _=>up a w e,fun a z=>.inl z,fun a w e=>⟨w,up a w e⟩⟩,z1m,.nil,by rw [List.drop_zero]; exact q2⟩,?_⟩
  rintro i m H2 ⟨δ2,acc,vs,rfl,hil,a2,hv,rv,p2⟩
  by_cases hlt:i < ds.length
  ·right
   have e:ds[i]? = some ds[i]:=by simp [hlt]
   rw [List.drop_eq_getElem_cons hlt] at p2
   refine ⟨((io' H2 a2.keep).2 i _ e).1,fun x H3 y=>hg l _ _ _ _ ?_⟩
   obtain ⟨a3,r3⟩:=z8Z io' a2 e y
   simp only [z2F] at p2
   cases eg:g (.pure ds[i]) δ2 with
   | none=>rw [eg] at p2; exact p2.elim
   | some δ3 =>
    rw [eg] at p2
    have p3:post c ((t δ3).bind fun b δ2=>if b then (el δ2).bind fun x δ3=>if acc.length < sizeLine then z2F cs g t el (ds.drop (i + 1)) (clrD cs δ3) (acc ++ [x.d]) else .stuck
     else z2F cs g t el (ds.drop (i + 1)) (clrD cs δ2) acc) Fin:=p2
    refine ⟨L2.clr cs σ,δ2,H3,δ2,.pure ds[i],δ3,.refl a3.ok,r3,eg,fun σ4 a4 o4=>?_⟩
    have le:Le (L2.clr cs σ) σ4:=⟨o4.1,fun j v ej=>by
     rw [o4.2 j (z3Z cs σ j v ej).2]; exact ej⟩
    have hs:∀ (j:Nat) v,σ4[j]? = some (some v)→j ∉ cs→σ[j]? = some (some v):=fun j v ej hj=>by
     rw [o4.2 j hj] at ej
     exact (z3Z cs σ j v ej).1
    refine ⟨le,ht l _ _ _ ⟨δ3,a4.ok,?_⟩⟩
    rw [z0b] at p3
    have pinp:∀ p ∈ (c.plus l).pin,p.1 ∉ cs:=hp
    have a24:=a2.trans (a3.trans a4)
    have ln:∀ {σ':St} {δ':Dl} {H':Hp},Ok (c.plus l) σ' δ' H'→¬ Own σ' δ' l:=fun {σ' δ' H'} k=>z4I k
    have p3':post (c.plus l) (t δ3) fun b δ5=>post c (if b then (el δ5).bind fun x δ3=>if acc.length < sizeLine then z2F cs g t el (ds.drop (i + 1)) (clrD cs δ3) (acc ++ [x.d]) else .stuck
     else z2F cs g t el (ds.drop (i + 1)) (clrD cs δ5) acc) Fin:=p3
    refine z07 p3' fun b δ5 p5 H5 a5=>?_
    have a25:=a24.trans a5
    have hv3:H3 l=some (.lst vs):=a3.keep l _ hv (ln a2.ok)
    have hv5:H5 l=some (.lst vs):=a5.keep l _ hv3 (ln a4.ok)
    have rv3:=Reps.aft (Reps.aft (Reps.aft rv a3) a4) a5
    cases b with
    | false =>
     have c5:=a25.clear le pinp hs
     refine ⟨ds.length - (i + 1),by omega,clrD cs δ5,acc,vs,rfl,hlt,c5,hv5,Reps.anti rv3 fun b z=>.inl ?_,p5⟩
     exact z.elim .inl fun ⟨j,d,e1,e2⟩=>.inr ⟨j,d,(z2e cs δ5 j _ e1).1,le.2 j _ e2⟩
    | true =>
     have p5':post c ((el δ5).bind fun x δ3=>if acc.length < sizeLine then z2F cs g t el (ds.drop (i + 1)) (clrD cs δ3) (acc ++ [x.d]) else .stuck) Fin:=p5
     rw [z0b] at p5'
     refine he l _ _ _ ⟨δ5,a5.ok,?_⟩
     have p6:post (c.plus l) (el δ5) fun x δ6=>post c (if acc.length < sizeLine then z2F cs g t el (ds.drop (i + 1)) (clrD cs δ6) (acc ++ [x.d]) else .stuck) Fin:=p5'
     refine z07 p6 fun x δ6 p7 v H6 a6 r6=>?_
     split at p7
     ·rename_i hz
      have a26:=a25.trans a6
      have hv6:H6 l=some (.lst vs):=a6.keep l _ hv5 (ln a5.ok)
      have rv6:=Reps.aft rv3 a6
      have rr:Reps H6 (Av (c.plus l) σ4 δ6) (vs ++ [v]) (acc ++ [x.d]):=rv6.append (.cons r6.rep .nil)
      have c6:=a26.clear le pinp hs
      have kpl:∀ b o,H6 b=some o→¬ Av (c.plus l) σ4 δ6 b→upd H6 l (.lst (vs ++ [v])) b=some o:=fun b o e n=>by
       rw [z0K (fun z=>n (by rw [z]; exact .inl (.inr rfl)))]; exact e
      have sub6:∀ b,Av (c.plus l) (L2.clr cs σ) (clrD cs δ6) b→Av (c.plus l) σ4 δ6 b:=fun b z=>z.elim .inl fun ⟨j,d,e1,e2⟩=>.inr ⟨j,d,(z2e cs δ6 j _ e1).1,le.2 j _ e2⟩
      refine ⟨vs,ds.length - (i + 1),hv6,by rw [rv6.1]; exact hz,by omega,clrD cs δ6,acc ++ [x.d],vs ++ [v],rfl,hlt,?_,z1m,Reps.anti (Reps.keep rr kpl) fun b z=>.inl (sub6 b z),p7⟩
      -- the list that is built has grown
      refine ⟨c6.ok.updB (.inr rfl) h0 _,fun a o ea n=>?_,fun a z=>c6.own a z,fun a o ea=>?_⟩
      ·have hal:a≠l:=fun z=>by rw [z,hl] at ea; cases ea
       rw [z0K hal]; exact c6.keep a o ea n
      ·by_cases hal:a=l
       ·exact ⟨_,by rw [hal]; exact z1m⟩
       ·obtain ⟨o',e'⟩:=c6.there a o ea
        exact ⟨o',by rw [z0K hal]; exact e'⟩
     ·exact p7.elim
  ·left
   have hi2:i=ds.length:=by omega
   subst hi2
   rw [List.drop_length] at p2
   exact ⟨(io' H2 a2.keep).1,p2 H2 vs a2 hv rv⟩
theorem z2U (hc:X.calm=true) (S:CScope X scope cs) (hi:SI X c tg iter it) (hg:∀ l s₀ H₀ ex,SGC (z2v X scope s₀ H₀ ex) (c.plus l) cs tg g) (ht:∀ l s₀ H₀ ex,STs (z2v X scope s₀ H₀ ex) (c.plus l) ifs t)
  (he:∀ l s₀ H₀ ex,SE (z2v X scope s₀ H₀ ex) (c.plus l) elt el) (hp:∀ p ∈ c.pin,p.1 ∉ cs) (hs:∀ x,foldedSetIterable iter X.env x=pure x:=by intro _; rfl) :
  SE X c (.ListComp elt [⟨tg,iter,ifs,0⟩] scope pos) (z28 cs it g t el) :=
 PE.weak (zd2 (g:=fun v σ H Q=>∃ l,tGC cs (c.plus l) g v σ H Q) (tt:=fun σ H Q=>∃ l,tT (c.plus l) t σ H Q) (te:=fun σ H Q=>∃ l,tD (c.plus l) el σ H Q) hc S hi
  (fun s₀ H₀ ex pins s σ H v u Q I r ⟨l,q⟩=>hg l s₀ H₀ ex pins s σ H v u Q I r q) (fun s₀ H₀ ex pins s σ H Q I ⟨l,q⟩=>ht l s₀ H₀ ex pins s σ H Q I q) (fun s₀ H₀ ex pins s σ H Q I ⟨l,q⟩=>he l s₀ H₀ ex pins s σ H Q I q) hs)
  fun σ H Q h=>z8n (fun _ _ _ h=>h) (fun l _ _ _ _ h=>⟨l,h⟩) (fun l _ _ _ h=>⟨l,h⟩) (fun l _ _ _ h=>⟨l,h⟩) hp h
theorem z6z {np:List Nat} {i:Nat} {y:Str} {py spos:Pos} (hnp:Np c np) (hc:X.calm=true) (S:CScope X scope cs) (hN:X.N.Nodup) (hi':X.N[i]? = some y) (hy:X.env.scope.names.lookup y=some .local)
  (hi:SI X c tg iter it) (hg:∀ l s₀ H₀ ex,SGC (z2v X scope s₀ H₀ ex) (c.plus l) cs tg g) (ht:∀ l s₀ H₀ ex,STs (z2v X scope s₀ H₀ ex) (c.plus l) ifs t)
  (he:∀ l s₀ H₀ ex,SE (z2v X scope s₀ H₀ ex) (c.plus l) elt el) (hp:∀ p ∈ c.pin,p.1 ∉ cs)
  (hsw:swapsWith (.ListComp elt [⟨tg,iter,ifs,0⟩] scope pos) (some (.Name y py)) spos.line X.env=pure true:=by rfl) (hs:∀ x,foldedSetIterable iter X.env x=pure x:=by intro _; rfl) :
  SS X c (.Assign [.Name y py] (.ListComp elt [⟨tg,iter,ifs,0⟩] scope pos) spos) (dAsg (z28 cs it g t el) (gNm np i)) :=
 PS.weak (z9G (g:=fun v σ H Q=>∃ l,tGC cs (c.plus l) g v σ H Q) (tt:=fun σ H Q=>∃ l,tT (c.plus l) t σ H Q) (te:=fun σ H Q=>∃ l,tD (c.plus l) el σ H Q) hc S hN hi' hy hi
  (fun s₀ H₀ ex pins s σ H v u Q I r ⟨l,q⟩=>hg l s₀ H₀ ex pins s σ H v u Q I r q) (fun s₀ H₀ ex pins s σ H Q I ⟨l,q⟩=>ht l s₀ H₀ ex pins s σ H Q I q) (fun s₀ H₀ ex pins s σ H Q I ⟨l,q⟩=>he l s₀ H₀ ex pins s σ H Q I q) hsw hs)
  fun D σ H h=>z7E (fun σ H Q h=>z8n (fun _ _ _ h=>h) (fun l _ _ _ _ h=>⟨l,h⟩) (fun l _ _ _ h=>⟨l,h⟩) (fun l _ _ _ h=>⟨l,h⟩) hp h) (fun _ _ _ _ h=>z7r hnp h) h
end
open PySem PySem.Spec PyProof.Rows L2
abbrev DF:=List S→Option (S×List S)
def z1Z:Nat→List S→List V→List (Nat×Addr)
 | n,.own _ :: ss,.ref a :: vs=>(n,a) :: z1Z (n + 1) ss vs
 | n,_ :: ss,_ :: vs=>z1Z (n + 1) ss vs
 | _,_,_=>[]
theorem z3z:∀ {n:Nat} {ss:List S} {vs:List V} {i:Nat} {a:Addr},(i,a) ∈ z1Z n ss vs→∃ j d,i=n + j∧ss[j]? = some (.own d)∧vs[j]? = some (.ref a)
 | n,[],vs,i,a,h=>by simp [z1Z] at h
 | n,s :: ss,[],i,a,h=>by cases s <;> simp [z1Z] at h
 | n,s :: ss,v :: vs,i,a,h=>by
  have rec':(i,a) ∈ z1Z (n + 1) ss vs→∃ j d,i=n + j∧(s :: ss)[j]? = some (.own d)∧(v :: vs)[j]? = some (.ref a):=fun h=>by
   obtain ⟨j,d,e,h1,h2⟩:=z3z h
   exact ⟨j + 1,d,by omega,by simpa using h1,by simpa using h2⟩
  cases s with
  | pure d=>exact rec' h
  | own d =>
   cases v with
   | ref b =>
    rcases List.mem_cons.mp h with e | h
    ·cases e
     exact ⟨0,d,rfl,rfl,rfl⟩
    ·exact rec' h
   | _=>exact rec' h
theorem z4N:∀ {n:Nat} {ss:List S} {vs:List V} {j:Nat} {d:D} {a:Addr},ss[j]? = some (.own d)→vs[j]? = some (.ref a)→(n + j,a) ∈ z1Z n ss vs
 | n,[],vs,j,d,a,h,_=>by simp at h
 | n,s :: ss,[],j,d,a,_,h=>by simp at h
 | n,s :: ss,v :: vs,0,d,a,h1,h2=>by
  simp at h1 h2
  subst h1 h2
  exact List.mem_cons_self
 | n,s :: ss,v :: vs,j + 1,d,a,h1,h2=>by
  have ih:=z4N (n:=n + 1) (ss:=ss) (vs:=vs) (j:=j) (d:=d) (a:=a) (by simpa using h1) (by simpa using h2)
  have e:n + 1 + j=n + (j + 1):=by omega
  rw [e] at ih
  cases s with
  | pure d=>exact ih
  | own d =>
   cases v with
   | ref b=>exact List.mem_cons_of_mem _ ih
   | _=>exact ih
abbrev z2q (vs:List V):St:=vs.map some
abbrev z2p (ss:List S):Dl:=ss.map some
theorem someS_get {ss:List S} {i:Nat} {r:S}:(z2p ss)[i]? = some (some r) ↔ ss[i]? = some r:=by
 rw [List.getElem?_map]
 cases ss[i]? <;> simp
theorem some'_get {vs:List V} {i:Nat} {v:V}:(z2q vs)[i]? = some (some v) ↔ vs[i]? = some v:=by
 rw [List.getElem?_map]
 cases vs[i]? <;> simp
def spD (n:Nat) (G:DF):Sp:=fun vs H Q _=>∃ ss B,vs.length=n∧Ok ⟨H,B,z1Z 0 ss vs,fun _ _=>False⟩ (z2q vs) (z2p ss) H∧∃ r outs,G ss=some (r,outs) ∧
 ∀ v H',Aft ⟨H,B,z1Z 0 ss vs,fun _ _=>False⟩ (z2q vs) (z2p ss) H (z2q vs) (z2p outs) H'→RepS ⟨H,B,z1Z 0 ss vs,fun _ _=>False⟩ (z2q vs) (z2p outs) H H' v r→Q v H'
def KFn (P:Program) (w:World) (K:PySem.W.Frag) (mg:Str→Option Value) (base:Heap) (k:Nat) (x:Str) (n:Nat) (G:DF):Prop :=
 ∃ (f:Addr) (fd:FuncData) (ps:List Str),mg x=some (.ref f)∧PySem.W.keepIn K (.ref f)=true∧Binds K fd ps []∧FnOk P w K mg base CX0 k f fd ps (spD n G)
def z0h (n:Nat) (ss:List S):Dl:=z2p ss ++ List.replicate (n - ss.length) none
def z0f:Nat→List S→Dl→Option (List S)
 | _,[],_=>some []
 | n,.pure d :: ss,δ=>(z0f (n + 1) ss δ).map (.pure d :: ·)
 | n,.own _ :: ss,δ=>match δ[n]? with
  | some (some (.own d'))=>(z0f (n + 1) ss δ).map (.own d' :: ·)
  | _=>none
def z0y:Fl→Option S
 | .next=>some (.pure .non)
 | .ret r=>some r
 | _=>none
def runD (f:DS) (n:Nat) (ss:List S):Option (S×List S):=match f (z0h n ss) with
 | .ok fl δ=>(z0y fl).bind fun r=>(z0f 0 ss δ).map fun outs=>(r,outs)
 | _=>none
def ioOk (np:List Nat):Nat→List S→Bool
 | _,[]=>true
 | n,.own _ :: ss=>np.contains n && ioOk np (n + 1) ss
 | n,.pure _ :: ss=>ioOk np (n + 1) ss
theorem zaU {np:List Nat}:∀ {n:Nat} {ss:List S} {j:Nat} {d:D},ioOk np n ss=true→ss[j]? = some (.own d)→np.contains (n + j)=true
 | n,[],j,d,_,h=>by simp at h
 | n,s :: ss,0,d,h,e=>by
  simp at e
  subst e
  simp only [ioOk,Bool.and_eq_true] at h
  exact h.1
 | n,s :: ss,j + 1,d,h,e=>by
  have h':ioOk np (n + 1) ss=true:=by
   cases s with
   | pure d=>exact h
   | own d=>simp only [ioOk,Bool.and_eq_true] at h; exact h.2
  have:=zaU (n:=n + 1) (j:=j) h' (by simpa using e)
  rw [show n + (j + 1)=n + 1 + j by omega]
  exact this
theorem z78:∀ {n:Nat} {ss outs:List S} {δ:Dl},z0f n ss δ=some outs→outs.length=ss.length∧∀ (i:Nat) s,ss[i]? = some s→(∃ d,s = .pure d∧outs[i]? = some (.pure d))∨∃ d d',s = .own d∧δ[n + i]? = some (some (.own d'))∧outs[i]? = some (.own d')
 | n,[],outs,δ,h=>by
  simp only [z0f,Option.some.injEq] at h
  subst h
  exact ⟨rfl,fun i s e=>by simp at e⟩
 | n,.pure d :: ss,outs,δ,h=>by
  simp only [z0f] at h
  cases e:z0f (n + 1) ss δ with
  | none=>rw [e] at h; cases h
  | some os =>
   rw [e] at h
   simp only [Option.map_some,Option.some.injEq] at h
   subst h
   obtain ⟨h1,h2⟩:=z78 e
   refine ⟨by simp [h1],fun i s es=>?_⟩
   cases i with
   | zero=>simp at es; subst es; exact .inl ⟨d,rfl,rfl⟩
   | succ i =>
    rcases h2 i s (by simpa using es) with ⟨d,z1,z2⟩ | ⟨d,d',z1,z2,z3⟩
    ·exact .inl ⟨d,z1,by simpa using z2⟩
    ·exact .inr ⟨d,d',z1,by rw [show n + (i + 1)=n + 1 + i by omega]; exact z2,by simpa using z3⟩
 | n,.own d :: ss,outs,δ,h=>by
  simp only [z0f] at h
  split at h
  ·rename_i d' ed
   cases e:z0f (n + 1) ss δ with
   | none=>rw [e] at h; cases h
   | some os =>
    rw [e] at h
    simp only [Option.map_some,Option.some.injEq] at h
    subst h
    obtain ⟨h1,h2⟩:=z78 e
    refine ⟨by simp [h1],fun i s es=>?_⟩
    cases i with
    | zero=>simp at es; subst es; exact .inr ⟨d,d',rfl,ed,rfl⟩
    | succ i =>
     rcases h2 i s (by simpa using es) with ⟨d,z1,z2⟩ | ⟨d,d',z1,z2,z3⟩
     ·exact .inl ⟨d,z1,by simpa using z2⟩
     ·exact .inr ⟨d,d',z1,by rw [show n + (i + 1)=n + 1 + i by omega]; exact z2,by simpa using z3⟩
  ·cases h
section
variable {c:Fc} {H H':Hp} {vs:List V} {ss outs:List S} {σ':St} {δ':Dl}
theorem z3O {α:Type} {l:List (Option α)} {k i:Nat} {v:α} (h:(l ++ List.replicate k none)[i]? = some (some v)):l[i]? = some (some v):=by
 by_cases hi:i < l.length
 ·rw [List.getElem?_append_left hi] at h; exact h
 ·rw [List.getElem?_append_right (by omega),List.getElem?_replicate] at h
  split at h <;> cases h
theorem z3C {α:Type} {l:List (Option α)} {k i:Nat} {v:α} (h:l[i]? = some (some v)):(l ++ List.replicate k none)[i]? = some (some v):=by
 have hi:i < l.length:=(List.getElem?_eq_some_iff.mp h).1
 rw [List.getElem?_append_left hi]; exact h
theorem Own.ext {σ:St} {δ:Dl} {k:Nat} {a:Addr}:Own (σ ++ List.replicate k none) (δ ++ List.replicate k none) a ↔ Own σ δ a :=
 ⟨fun ⟨i,d,e1,e2⟩=>⟨i,d,z3O e1,z3O e2⟩,fun ⟨i,d,e1,e2⟩=>⟨i,d,z3C e1,z3C e2⟩⟩
theorem Ok.ext {σ:St} {δ:Dl} (k:Ok c σ δ H) (n:Nat):Ok c (σ ++ List.replicate n none) (δ ++ List.replicate n none) H:=by
 have sub:∀ b,Av c (σ ++ List.replicate n none) (δ ++ List.replicate n none) b→Av c σ δ b:=fun b z=>z.elim .inl fun z=>.inr (Own.ext.mp z)
 refine ⟨k.keep,k.bd,k.ith,by simp [k.len],fun i d e=>?_,fun i d e=>?_,fun i j a d d' e1 e2 e3 e4=>k.inj i j a d d' (z3O e1) (z3O e2) (z3O e3) (z3O e4),fun p hm=>z3C (k.pinned p hm)⟩
 ·obtain ⟨v,h1,h2⟩:=k.slot i d (z3O e)
  exact ⟨v,z3C h1,h2.anti fun b z=>.inl (sub b z)⟩
 ·obtain ⟨a,h1,h2,h3⟩:=k.own i d (z3O e)
  exact ⟨a,z3C h1,h2.anti fun b z=>.inl (sub b z),h3⟩
theorem zeD {B:Addr→Prop} {n:Nat} (hc:c = ⟨H,B,z1Z 0 ss vs,fun _ _=>False⟩) (k:Ok c (z2q vs) (z2p ss) H) (x:Aft c (z2q vs ++ List.replicate n none) (z2p ss ++ List.replicate n none) H σ' δ' H') (ho:z0f 0 ss δ'=some outs) :
  Aft c (z2q vs) (z2p ss) H (z2q vs) (z2p outs) H'∧∀ v r,RepS c σ' δ' H H' v r→RepS c (z2q vs) (z2p outs) H H' v r:=by
 obtain ⟨hlen,hat⟩:=z78 ho
 have hvs:ss.length=vs.length:=by have:=k.len; simpa using this
 have pin:∀ (i:Nat) (a:Addr) (d:D),ss[i]? = some (.own d)→vs[i]? = some (.ref a)→σ'[i]? = some (some (.ref a)):=fun i a d h1 h2=>by
  have:=z4N (n:=0) h1 h2
  rw [Nat.zero_add] at this
  exact x.ok.pinned (i,a) (by rw [hc]; exact this)
 have ownS:∀ (i:Nat) (d:D),outs[i]? = some (.own d)→(∃ d₀,ss[i]? = some (.own d₀))∧δ'[i]? = some (some (.own d)):=fun i d e=>by
  have hi:i < ss.length:=by rw [← hlen]; exact (List.getElem?_eq_some_iff.mp e).1
  rcases hat i ss[i] (by simp [hi]) with ⟨d₁,z1,z2⟩ | ⟨d₁,d',z1,z2,z3⟩
  ·rw [e] at z2; cases z2
  ·rw [e] at z3; cases z3
   rw [Nat.zero_add] at z2
   exact ⟨⟨d₁,by rw [List.getElem?_eq_getElem hi,z1]⟩,z2⟩
 have sub:∀ b,Own (z2q vs) (z2p outs) b→Own σ' δ' b:=fun b ⟨i,d,e1,e2⟩=>by
  obtain ⟨⟨d₀,h0⟩,h1⟩:=ownS i d (someS_get.mp e1)
  exact ⟨i,d,h1,pin i b d₀ h0 (some'_get.mp e2)⟩
 have subA:∀ b,Av c (z2q vs) (z2p outs) b→Av c σ' δ' b:=fun b z=>z.elim .inl fun z=>.inr (sub b z)
 have okO:∀ {c':Fc},c'.pin=c.pin→Ok c' σ' δ' H'→(∀ b,c.B b→c'.B b)→(∀ (i:Nat) d v,ss[i]? = some (.pure d)→vs[i]? = some v→Rep H' (Av c' σ' δ') v d)→Ok c' (z2q vs) (z2p outs) H':=fun {c'} ep k' hB hsl=>by
  have subA':∀ b,Av c' (z2q vs) (z2p outs) b→Av c' σ' δ' b:=fun b z=>z.elim .inl fun z=>.inr (sub b z)
  refine ⟨k'.keep,k'.bd,k'.ith,by simp [hlen,hvs],fun i d e=>?_,fun i d e=>?_,fun i j a d d' e1 e2 e3 e4=>?_,fun p hm=>?_⟩
  ·have e':=someS_get.mp e
   have hi:i < ss.length:=by rw [← hlen]; exact (List.getElem?_eq_some_iff.mp e').1
   have hv:i < vs.length:=by omega
   rcases hat i ss[i] (by simp [hi]) with ⟨d₁,z1,z2⟩ | ⟨d₁,d',z1,z2,z3⟩
   ·rw [e'] at z2; cases z2
    exact ⟨vs[i],by simp [hv],(hsl i d vs[i] (by rw [List.getElem?_eq_getElem hi,z1]) (by simp [hv])).anti fun b z=>.inl (subA' b z)⟩
   ·rw [e'] at z3; cases z3
  ·have e':=someS_get.mp e
   obtain ⟨⟨d₀,h0⟩,h1⟩:=ownS i d e'
   obtain ⟨a₀,h2,_⟩:=k.own i d₀ (someS_get.mpr h0)
   obtain ⟨a,h3,h4,h5⟩:=k'.own i d h1
   rw [pin i a₀ d₀ h0 (some'_get.mp h2)] at h3
   cases h3
   exact ⟨a₀,h2,h4.anti fun b z=>.inl (subA' b z),h5⟩
  ·obtain ⟨⟨d₀,h0⟩,h1⟩:=ownS i d (someS_get.mp e1)
   obtain ⟨⟨d₁,h2⟩,h3⟩:=ownS j d' (someS_get.mp e2)
   exact k'.inj i j a d d' h1 h3 (pin i a d₀ h0 (some'_get.mp e3)) (pin j a d₁ h2 (some'_get.mp e4))
  ·exact k.pinned p (by rw [← ep]; exact hm)
 have slots:∀ (i:Nat) d v,ss[i]? = some (.pure d)→vs[i]? = some v→Rep H' (Av c σ' δ') v d:=fun i d v h1 h2=>by
  obtain ⟨w,e1,r⟩:=(k.ext n).slot i d (z3C (someS_get.mpr h1))
  rw [z3C (some'_get.mpr h2)] at e1
  cases e1
  exact Rep.aft r x
 refine ⟨⟨okO rfl x.ok (fun _ z=>z) slots,fun a o e m=>x.keep a o e fun z=>m (Own.ext.mp z),fun a z=>(x.own a (sub a z)).elim (fun z=>.inl (Own.ext.mp z)) .inr,x.there⟩,fun v r hr=>?_⟩
 cases r with
 | pure d=>exact Rep.anti hr fun b z=>.inl (subA b z)
 | own d =>
  obtain ⟨a,ea,o,nb,h0,kp,hs⟩:=hr
  refine ⟨a,ea,o.anti fun b z=>.inl (z.elim .inl fun z=>.inr (sub b z)),nb,h0,okO rfl kp (fun _ z=>.inl z) fun i d v h1 h2=>?_,hs⟩
  obtain ⟨w,e1,r⟩:=(k.ext n).slot i d (z3C (someS_get.mpr h1))
  rw [z3C (some'_get.mpr h2)] at e1
  cases e1
  have hHa:H a=none:=hs
  have r1:Rep H (Av c (z2q vs ++ List.replicate n none) (z2p ss ++ List.replicate n none)) v d:=r
  have r2:Rep H (fun b=>Av c (z2q vs ++ List.replicate n none) (z2p ss ++ List.replicate n none) b∨Av (c.plus a) σ' δ' b) v d:=r1.anti fun b z=>by
   rcases z with z | (z | z) | z
   ·exact .inl z
   ·exact .inl (.inl z)
   ·exact .inr (by rw [z]; exact hHa)
   ·rcases x.own b z with q | q
    ·exact .inl (.inr q)
    ·exact .inr q
  exact (r2.keep fun b o e m=>x.keep b o e fun z=>m (.inl (.inr z))).anti fun b z=>.inl (.inr z)
end
section
variable {P:Program} {w:World} {K:PySem.W.Frag} {mg:Str→Option Value} {base:Heap}
theorem zeR {x qual:Str} {st:Stmt} {f:Addr} {fd:FuncData} {N ps:List Str} {k:Nat} {np:List Nat} {fb:DS} {G:DF} (F:Fun K x qual st f fd) (S:FnScope N ps (z06 st))
  (hbody:∀ (c:Fc) (cdv:Value) (A:Around) (outer:List Env) (s:Shared) (H:Hp) (E:XK),Room k (A.deeper (envOfC qual (z06 st) s.heap.objs.size f cdv))→Np c np→SSs (cxOf CX0 P w K mg base N qual (z06 st) f cdv A outer s H E).nox c (z0r st) fb)
  (hG:∀ ss y,G ss=some y→ioOk np 0 ss=true∧runD fb N.length ss=some y):FnOk P w K mg base CX0 (k + 1) f fd ps (spD ps.length G):=by
 refine F.ok S (fun vs H Q E h=>?_) fun cdv A outer s H vs Q E hr h=>?_
 ·obtain ⟨ss,B,hl,_⟩:=h
  exact hl
 ·obtain ⟨ss,B,hl,ok,r,outs,hg,q⟩:=h
  obtain ⟨hio,hrun⟩:=hG ss _ hg
  have hvs:ss.length=vs.length:=by have:=ok.len; simpa using this
  have np':Np ⟨H,B,z1Z 0 ss vs,fun _ _=>False⟩ np:=fun p hp=>by
   obtain ⟨j,d,e,h1,_⟩:=z3z (i:=p.1) (a:=p.2) hp
   rw [e]
   exact zaU hio h1
  refine ⟨tDS ⟨H,B,z1Z 0 ss vs,fun _ _=>False⟩ fb,hbody ⟨H,B,z1Z 0 ss vs,fun _ _=>False⟩ cdv A outer s H E hr np',?_⟩
  have hst:z6i N vs=z2q vs ++ List.replicate (N.length - ss.length) none:=by rw [hvs]; rfl
  refine ⟨z0h N.length ss,by rw [hst]; exact ok.ext _,?_⟩
  unfold runD at hrun
  unfold z54
  cases e:fb (z0h N.length ss) with
  | exc x δx=>rw [e] at hrun; cases hrun
  | stuck=>rw [e] at hrun; cases hrun
  | ok fl δ' =>
   rw [e] at hrun
   show ∀ σ' H',Aft _ (z6i N vs) (z0h N.length ss) H σ' δ' H'→fin _ _ σ' δ' H' fl
   intro σ' H' a
   rw [hst] at a
   simp only at hrun
   cases fl with
   | brk=>cases hrun
   | cont=>cases hrun
   | next =>
    simp only [z0y,Option.bind_some] at hrun
    cases eo:z0f 0 ss δ' with
    | none=>rw [eo] at hrun; cases hrun
    | some os =>
     rw [eo] at hrun
     cases hrun
     obtain ⟨l1,l2⟩:=zeD rfl ok a eo
     exact q .non H' l1 .non
   | ret r' =>
    simp only [z0y,Option.bind_some] at hrun
    cases eo:z0f 0 ss δ' with
    | none=>rw [eo] at hrun; cases hrun
    | some os =>
     rw [eo] at hrun
     cases hrun
     obtain ⟨l1,l2⟩:=zeD rfl ok a eo
     exact fun v rv=>q v H' l1 (l2 v _ rv)
theorem z15 {x qual:Str} {st:Stmt} {f:Addr} {fd:FuncData} {N ps:List Str} {k:Nat} {np:List Nat} {fb:DS} {G:DF} (F:Fun K x qual st f fd) (hm:mg x=some (.ref f)) (hb:Binds K fd ps []) (S:FnScope N ps (z06 st))
  (hbody:∀ (c:Fc) (cdv:Value) (A:Around) (outer:List Env) (s:Shared) (H:Hp) (E:XK),Room k (A.deeper (envOfC qual (z06 st) s.heap.objs.size f cdv))→Np c np→SSs (cxOf CX0 P w K mg base N qual (z06 st) f cdv A outer s H E).nox c (z0r st) fb)
  (hG:∀ ss y,G ss=some y→ioOk np 0 ss=true∧runD fb N.length ss=some y):KFn P w K mg base (k + 1) x ps.length G:=⟨f,fd,ps,hm,F.kp,hb,zeR F S hbody hG⟩
end
open PySem PySem.Spec PyProof.Rows L2
inductive Ak where
 | val (f:DE)
 | io (i:Nat)
def evX:List Ak→Dl→Rs (List (Option D))
 | [],δ=>.ok [] δ
 | .val f :: r,δ=>(f δ).bind fun x δ1=>(evX r δ1).bind fun xs δ2=>.ok (some x.d :: xs) δ2
 | .io _ :: r,δ=>(evX r δ).bind fun xs δ2=>.ok (none :: xs) δ2
inductive ArgR (c:Fc) (σ:St) (δ:Dl) (H:Hp):List V→List Ak→List (Option D)→Prop
 | nil:ArgR c σ δ H [] [] []
 | val {v:V} {d:D} {f:DE} {vs:List V} {as:List Ak} {ds:List (Option D)}:Rep H (Av c σ δ) v d→ArgR c σ δ H vs as ds→ArgR c σ δ H (v :: vs) (.val f :: as) (some d :: ds)
 | io {v:V} {i:Nat} {vs:List V} {as:List Ak} {ds:List (Option D)}:σ[i]? = some (some v)→ArgR c σ δ H vs as ds→ArgR c σ δ H (v :: vs) (.io i :: as) (none :: ds)
theorem ArgR.aft {c:Fc} {σ:St} {δ δ':Dl} {H H':Hp} {vs:List V} {as:List Ak} {ds:List (Option D)} (h:ArgR c σ δ H vs as ds) (x:Aft c σ δ H σ δ' H'):ArgR c σ δ' H' vs as ds:=by
 induction h with
 | nil=>exact .nil
 | val r _ ih=>exact .val (Rep.aft r x) ih
 | io e _ ih=>exact .io e ih
def tX (c:Fc) (as:List Ak):TA:=fun σ H Q=>∃ δ,Ok c σ δ H∧(∀ i,Ak.io i ∈ as→∃ v,σ[i]? = some (some v))∧post c (evX as δ) fun ds δ'=>∀ vs H',Aft c σ δ H σ δ' H'→ArgR c σ δ' H' vs as ds→Q vs H'
abbrev SX (X:Cx) (c:Fc) (es:List Expr) (as:List Ak):Prop:=PA X es (tX c as)
section
variable {X:Cx} {c:Fc} {e:Expr} {es:List Expr} {fe:DE} {as:List Ak} {pos pp:Pos}
theorem z0j:SX X c [] []:=PA.weak z4f fun σ H Q ⟨δ,k,_,q⟩=>q [] H (.refl k) .nil
theorem zdI (ha:SE X c e fe) (hr:SX X c es as) (hs:starEach (e :: es) X.env=(false,eval e X.env) :: starEach es X.env:=by rfl):SX X c (e :: es) (.val fe :: as):=PA.weak (z2s ha hr hs) fun σ H Q ⟨δ,k,hio,q⟩=>by
 unfold evX at q
 rw [z0b] at q
 refine ⟨δ,k,z07 q fun x δ1 q1 v H1 a1 r1=>⟨δ1,a1.ok,fun i hi=>hio i (List.mem_cons_of_mem _ hi),?_⟩⟩
 rw [z0b] at q1
 exact z07 q1 fun xs δ2 q2 vs H2 a2 r2=>q2 (v :: vs) H2 (a1.trans a2) (.val (Rep.aft r1.rep a2) r2)
theorem sx_io {i:Nat} (ha:PE X e (tVar i)) (hr:SX X c es as) (hs:starEach (e :: es) X.env=(false,eval e X.env) :: starEach es X.env:=by rfl):SX X c (e :: es) (.io i :: as):=PA.weak (z2s ha hr hs) fun σ H Q ⟨δ,k,hio,q⟩=>by
 obtain ⟨v,ev⟩:=hio i List.mem_cons_self
 unfold evX at q
 rw [z0b] at q
 exact ⟨v,ev,δ,k,fun i hi=>hio i (List.mem_cons_of_mem _ hi),z07 q fun xs δ2 q2 vs H2 a2 r2=>q2 (v :: vs) H2 a2 (.io ev r2)⟩
end
def mkA:List Ak→List (Option D)→Dl→Option (List S)
 | [],[],_=>some []
 | .val _ :: as,some d :: ds,δ=>(mkA as ds δ).map (.pure d :: ·)
 | .io i :: as,none :: ds,δ=>match δ[i]? with
  | some (some (.own d))=>(mkA as ds δ).map (.own d :: ·)
  | _=>none
 | _,_,_=>none
def ios:List Ak→List Nat
 | []=>[]
 | .val _ :: as=>ios as
 | .io i :: as=>i :: ios as
def putA:List Ak→List S→Dl→Dl
 | .io i :: as,r :: rs,δ=>putA as rs (δ.set i (some r))
 | .val _ :: as,_ :: rs,δ=>putA as rs δ
 | _,_,δ=>δ
def ndup:List Nat→Bool
 | []=>true
 | i :: r=>!r.contains i && ndup r
def z05 (G:DF) (as:List Ak):DE:=fun δ=>if (ios as).all (z0x δ) && ndup (ios as) then (evX as δ).bind fun ds δ1=>match mkA as ds δ1 with
  | none=>.stuck
  | some ss=>match G ss with
   | none=>.stuck
   | some (r,outs)=>.ok r (putA as outs δ1)
 else .stuck
theorem z6I:∀ {l:List Nat},ndup l=true→l.Nodup
 | [],_=>.nil
 | i :: r,h=>by
  simp only [ndup,Bool.and_eq_true,Bool.not_eq_true'] at h
  exact List.nodup_cons.mpr ⟨fun hm=>by have:=h.1; simp at this; exact this hm,z6I h.2⟩
theorem ios_mem:∀ {as:List Ak} {i:Nat},i ∈ ios as ↔ Ak.io i ∈ as
 | [],i=>by simp [ios]
 | .val f :: as,i=>by simp [ios,ios_mem (as:=as)]
 | .io j :: as,i=>by simp [ios,ios_mem (as:=as)]
theorem zaT:∀ {as:List Ak} {i j k:Nat},(ios as).Nodup→as[j]? = some (.io i)→as[k]? = some (.io i)→j=k
 | [],i,j,k,_,h,_=>by simp at h
 | .val f :: as,i,j,k,nd,h1,h2=>by
  cases j with
  | zero=>simp at h1
  | succ j =>
   cases k with
   | zero=>simp at h2
   | succ k=>exact congrArg (· + 1) (zaT (as:=as) nd (by simpa using h1) (by simpa using h2))
 | .io n :: as,i,j,k,nd,h1,h2=>by
  have nd':=List.nodup_cons.mp nd
  cases j with
  | zero =>
   simp at h1
   subst h1
   cases k with
   | zero=>rfl
   | succ k=>exact absurd (ios_mem.mpr (List.mem_of_getElem? (by simpa using h2))) nd'.1
  | succ j =>
   cases k with
   | zero =>
    simp at h2
    subst h2
    exact absurd (ios_mem.mpr (List.mem_of_getElem? (by simpa using h1))) nd'.1
   | succ k=>exact congrArg (· + 1) (zaT (as:=as) nd'.2 (by simpa using h1) (by simpa using h2))
section
variable {c:Fc} {σ:St} {δ:Dl} {H:Hp} {vs:List V} {as:List Ak} {ds:List (Option D)} {ss:List S}
theorem zaM (h:ArgR c σ δ H vs as ds):∀ {ss:List S},mkA as ds δ=some ss→ss.length=vs.length∧as.length=vs.length∧∀ (j:Nat) s v,ss[j]? = some s→vs[j]? = some v →
  (∃ d f,s = .pure d∧as[j]? = some (.val f)∧Rep H (Av c σ δ) v d)∨∃ d i,s = .own d∧as[j]? = some (.io i)∧σ[i]? = some (some v)∧δ[i]? = some (some (.own d)):=by
 induction h with
 | nil =>
  intro ss h
  simp only [mkA,Option.some.injEq] at h
  subst h
  exact ⟨rfl,rfl,fun j s v e _=>by simp at e⟩
 | @val v d f vs as ds r _ ih =>
  intro ss h
  simp only [mkA] at h
  cases e:mkA as ds δ with
  | none=>rw [e] at h; cases h
  | some rs =>
   rw [e] at h
   simp only [Option.map_some,Option.some.injEq] at h
   subst h
   obtain ⟨h1,h2,h3⟩:=ih e
   refine ⟨by simp [h1],by simp [h2],fun j s v' e1 e2=>?_⟩
   cases j with
   | zero=>simp at e1 e2; subst e1 e2; exact .inl ⟨d,f,rfl,rfl,r⟩
   | succ j=>simpa using h3 j s v' (by simpa using e1) (by simpa using e2)
 | @io v i vs as ds ev _ ih =>
  intro ss h
  simp only [mkA] at h
  split at h
  ·rename_i d ed
   cases e:mkA as ds δ with
   | none=>rw [e] at h; cases h
   | some rs =>
    rw [e] at h
    simp only [Option.map_some,Option.some.injEq] at h
    subst h
    obtain ⟨h1,h2,h3⟩:=ih e
    refine ⟨by simp [h1],by simp [h2],fun j s v' e1 e2=>?_⟩
    cases j with
    | zero=>simp at e1 e2; subst e1 e2; exact .inr ⟨d,i,rfl,rfl,ev,ed⟩
    | succ j=>simpa using h3 j s v' (by simpa using e1) (by simpa using e2)
  ·cases h
theorem z74:∀ (as:List Ak) (rs:List S) (δ:Dl),(putA as rs δ).length=δ.length
 | [],rs,δ=>by simp [putA]
 | .val f :: as,[],δ=>by simp [putA]
 | .io i :: as,[],δ=>by simp [putA]
 | .val f :: as,r :: rs,δ=>by simp [putA,z74 as rs δ]
 | .io i :: as,r :: rs,δ=>by simp [putA,z74 as rs]
theorem z4H:∀ (as:List Ak) (rs:List S) (δ:Dl) (i:Nat),i ∉ ios as→(putA as rs δ)[i]? = δ[i]?
 | [],rs,δ,i,_=>by simp [putA]
 | .val f :: as,[],δ,i,_=>by simp [putA]
 | .io j :: as,[],δ,i,_=>by simp [putA]
 | .val f :: as,r :: rs,δ,i,h=>by rw [putA]; exact z4H as rs δ i h
 | .io j :: as,r :: rs,δ,i,h=>by
  simp only [ios,List.mem_cons,not_or] at h
  rw [putA,z4H as rs _ i h.2,List.getElem?_set_ne (Ne.symm h.1)]
theorem z75:∀ (as:List Ak) (rs:List S) (δ:Dl) (i j:Nat) (r:S),(ios as).Nodup→as[j]? = some (.io i)→rs[j]? = some r→i < δ.length→(putA as rs δ)[i]? = some (some r)
 | [],rs,δ,i,j,r,_,h,_,_=>by simp at h
 | a :: as,[],δ,i,j,r,_,_,h,_=>by simp at h
 | .val f :: as,r0 :: rs,δ,i,j,r,nd,h1,h2,hi=>by
  cases j with
  | zero=>simp at h1
  | succ j=>rw [putA]; exact z75 as rs δ i j r nd (by simpa using h1) (by simpa using h2) hi
 | .io k :: as,r0 :: rs,δ,i,j,r,nd,h1,h2,hi=>by
  have nd':=List.nodup_cons.mp nd
  cases j with
  | zero =>
   simp at h1 h2
   subst h1 h2
   rw [putA,z4H as rs _ k nd'.1,List.getElem?_set_self hi]
  | succ j=>rw [putA]; exact z75 as rs _ i j r nd'.2 (by simpa using h1) (by simpa using h2) (by simpa using hi)
theorem zds (k:Ok c σ δ H) (hr:ArgR c σ δ H vs as ds) (hm:mkA as ds δ=some ss) (nd:(ios as).Nodup) :
  Ok ⟨H,fun a=>Av c σ δ a∧¬ ∃ (j:Nat) (d:D),ss[j]? = some (S.own d)∧vs[j]? = some (V.ref a),z1Z 0 ss vs,fun _ _=>False⟩ (z2q vs) (z2p ss) H:=by
 obtain ⟨h1,h2,h3⟩:=zaM hr hm
 have at':∀ (j:Nat) s,ss[j]? = some s→∃ v,vs[j]? = some v:=fun j s e=>by
  have:j < vs.length:=by rw [← h1]; exact (List.getElem?_eq_some_iff.mp e).1
  exact ⟨vs[j],by simp [this]⟩
 have ownE:∀ a,Own (z2q vs) (z2p ss) a ↔ ∃ (j:Nat) (d:D),ss[j]? = some (S.own d)∧vs[j]? = some (V.ref a):=fun a =>
  ⟨fun ⟨j,d,e1,e2⟩=>⟨j,d,someS_get.mp e1,some'_get.mp e2⟩,fun ⟨j,d,e1,e2⟩=>⟨j,d,someS_get.mpr e1,some'_get.mpr e2⟩⟩
 have own2:∀ a,Own (z2q vs) (z2p ss) a→Own σ δ a:=fun a z=>by
  obtain ⟨j,d,e1,e2⟩:=(ownE a).mp z
  rcases h3 j _ _ e1 e2 with ⟨d',f,e,_⟩ | ⟨d',i,e,_,es,ed⟩
  ·cases e
  ·exact ⟨i,d',ed,es⟩
 have sub:∀ a,Av ⟨H,fun a=>Av c σ δ a∧¬ ∃ (j:Nat) (d:D),ss[j]? = some (S.own d)∧vs[j]? = some (V.ref a),z1Z 0 ss vs,fun _ _=>False⟩ (z2q vs) (z2p ss) a→Av c σ δ a:=fun a z=>z.elim (fun z=>z.1) fun z=>.inr (own2 a z)
 refine ⟨fun a o e _=>e,fun a z=>k.avthere z.1,fun a ⟨i,hi⟩=>?_,by simp [h1],fun j d e=>?_,fun j d e=>?_,fun i j a d d' e1 e2 e3 e4=>?_,fun p hp=>?_⟩
 ·obtain ⟨j,d,_,e1,e2⟩:=z3z hi
  exact k.othere (own2 a ((ownE a).mpr ⟨j,d,e1,e2⟩))
 ·have e':=someS_get.mp e
  obtain ⟨v,ev⟩:=at' j _ e'
  rcases h3 j _ v e' ev with ⟨d',f,e,_,r⟩ | ⟨d',i,e,_⟩
  ·cases e
   exact ⟨v,some'_get.mpr ev,r.anti fun b z=>.inl (sub b z)⟩
  ·cases e
 ·have e':=someS_get.mp e
  obtain ⟨v,ev⟩:=at' j _ e'
  rcases h3 j _ v e' ev with ⟨d',f,e,_,r⟩ | ⟨d',i,e,_,es,ed⟩
  ·cases e
  ·cases e
   obtain ⟨a,g1,g2,g3⟩:=k.own i d ed
   rw [es] at g1
   cases g1
   refine ⟨a,some'_get.mpr ev,g2.anti fun b z=>.inl (sub b z),.inl ⟨0 + j,z4N e' ev⟩,fun z=>z.2 ⟨j,d,e',ev⟩⟩
 ·have f1:=someS_get.mp e1
  have f2:=someS_get.mp e2
  rcases h3 i _ _ f1 (some'_get.mp e3) with ⟨_,_,e,_⟩ | ⟨d1,i1,e,a1,s1,x1⟩
  ·cases e
  ·rcases h3 j _ _ f2 (some'_get.mp e4) with ⟨_,_,e',_⟩ | ⟨d2,i2,e',a2,s2,x2⟩
   ·cases e'
   ·have:=k.inj i1 i2 a d1 d2 x1 x2 s1 s2
    subst this
    exact zaT nd a1 a2
 ·obtain ⟨j,d,e,e1,e2⟩:=z3z (i:=p.1) (a:=p.2) hp
  rw [Nat.zero_add] at e
  rw [e]
  exact some'_get.mpr e2
theorem zbW {H':Hp} {outs:List S} (k:Ok c σ δ H) (hr:ArgR c σ δ H vs as ds) (hm:mkA as ds δ=some ss) (nd:(ios as).Nodup) {B:Addr→Prop} (hB:B=fun a=>Av c σ δ a∧¬ ∃ (j:Nat) (d:D),ss[j]? = some (S.own d)∧vs[j]? = some (V.ref a))
  (x:Aft ⟨H,B,z1Z 0 ss vs,fun _ _=>False⟩ (z2q vs) (z2p ss) H (z2q vs) (z2p outs) H') (hio:∀ (j:Nat) d,ss[j]? = some (.own d)→∃ d',outs[j]? = some (.own d')) (hpo:∀ (j:Nat) d,ss[j]? = some (.pure d)→∃ d',outs[j]? = some (.pure d')) :
  Aft c σ δ H σ (putA as outs δ) H'∧∀ v r,RepS ⟨H,B,z1Z 0 ss vs,fun _ _=>False⟩ (z2q vs) (z2p outs) H H' v r→RepS c σ (putA as outs δ) H H' v r:=by
 obtain ⟨h1,h2,h3⟩:=zaM hr hm
 have inIdx:∀ i,i ∈ ios as→∃ (j:Nat) (d:D) (a:Addr),as[j]? = some (.io i)∧ss[j]? = some (.own d)∧vs[j]? = some (.ref a)∧σ[i]? = some (some (.ref a))∧δ[i]? = some (some (.own d)):=fun i hi=>by
  obtain ⟨j,hj,ej⟩:=List.mem_iff_getElem.mp (ios_mem.mp hi)
  have hv:j < vs.length:=by omega
  have hs:j < ss.length:=by omega
  have ej':as[j]? = some (.io i):=by rw [List.getElem?_eq_getElem hj,ej]
  rcases h3 j ss[j] vs[j] (by simp [hs]) (by simp [hv]) with ⟨d,f,e,a1,_⟩ | ⟨d,i',e,a1,s1,x1⟩
  ·rw [ej'] at a1; cases a1
  ·rw [ej'] at a1; cases a1
   obtain ⟨a,g1,_⟩:=k.own i d x1
   rw [s1] at g1
   have g2:vs[j] = .ref a:=by
    have:=Option.some.inj g1
    exact Option.some.inj this
   exact ⟨j,d,a,ej',by rw [List.getElem?_eq_getElem hs,e],by rw [List.getElem?_eq_getElem hv,g2],by rw [s1,g2],x1⟩
 have passed:∀ a,(∃ (j:Nat) (d:D),ss[j]? = some (S.own d)∧vs[j]? = some (V.ref a))→Own σ δ a:=fun a ⟨j,d,e1,e2⟩=>by
  rcases h3 j _ _ e1 e2 with ⟨d',f,e,_⟩ | ⟨d',i,e,_,es,ed⟩
  ·cases e
  ·exact ⟨i,d',ed,es⟩
 have Iiff:∀ a,(⟨H,B,z1Z 0 ss vs,fun _ _=>False⟩:Fc).I a ↔ ∃ (j:Nat) (d:D),ss[j]? = some (S.own d)∧vs[j]? = some (V.ref a):=fun a =>
  ⟨fun ⟨i,hi⟩=>by obtain ⟨j,d,_,e1,e2⟩:=z3z hi; exact ⟨j,d,e1,e2⟩,fun ⟨j,d,e1,e2⟩=>⟨0 + j,z4N e1 e2⟩⟩
 have ownIn:∀ a,Own (z2q vs) (z2p ss) a→∃ (j:Nat) (d:D),ss[j]? = some (S.own d)∧vs[j]? = some (V.ref a):=fun a ⟨j,d,e1,e2⟩=>⟨j,d,someS_get.mp e1,some'_get.mp e2⟩
 -- the owned addresses are the same
 have slotP:∀ (i:Nat) (d:D),(putA as outs δ)[i]? = some (some (.own d))→(i ∉ ios as∧δ[i]? = some (some (.own d)))∨(i ∈ ios as∧∃ (j:Nat) (d0:D) (a:Addr),as[j]? = some (.io i)∧ss[j]? = some (.own d0)∧vs[j]? = some (.ref a)∧σ[i]? = some (some (.ref a))∧outs[j]? = some (.own d)):=fun i d e=>by
  by_cases hi:i ∈ ios as
  ·right
   obtain ⟨j,d0,a,a1,a2,a3,a4,a5⟩:=inIdx i hi
   obtain ⟨d',ed'⟩:=hio j d0 a2
   have hlt:i < δ.length:=(List.getElem?_eq_some_iff.mp a5).1
   have:=z75 as outs δ i j (.own d') nd a1 ed' hlt
   rw [e] at this
   cases this
   exact ⟨hi,j,d0,a,a1,a2,a3,a4,ed'⟩
  ·rw [z4H as outs δ i hi] at e
   exact .inl ⟨hi,e⟩
 have own_sub:∀ b,Own σ (putA as outs δ) b→Own σ δ b:=fun b ⟨i,d,e1,e2⟩=>by
  rcases slotP i d e1 with ⟨_,e⟩ | ⟨hi,j,d0,a,_,a2,a3,a4,_⟩
  ·exact ⟨i,d,e,e2⟩
  ·rw [e2] at a4
   have:b=a:=by injection (Option.some.inj (Option.some.inj a4))
   subst this
   exact passed b ⟨j,d0,a2,a3⟩
 have pureP:∀ (i:Nat) (d:D),(putA as outs δ)[i]? = some (some (.pure d))→i ∉ ios as∧δ[i]? = some (some (.pure d)):=fun i d e=>by
  by_cases hi:i ∈ ios as
  ·obtain ⟨j,d0,a,a1,a2,a3,a4,a5⟩:=inIdx i hi
   obtain ⟨d',ed'⟩:=hio j d0 a2
   have hlt:i < δ.length:=(List.getElem?_eq_some_iff.mp a5).1
   have:=z75 as outs δ i j (.own d') nd a1 ed' hlt
   rw [e] at this
   cases this
  ·rw [z4H as outs δ i hi] at e
   exact ⟨hi,e⟩
 have kpAv:∀ a o,H a=some o→¬ Av c σ δ a→H' a=some o:=fun a o e n=>x.keep a o e fun z=>n (.inr (passed a (ownIn a z)))
 have subA:∀ b,Av c σ (putA as outs δ) b→Av c σ δ b:=fun b z=>z.elim .inl fun z=>.inr (own_sub b z)
 -- the callee's set holds ours
 have big:∀ {c':Fc},c'.B=B→∀ b,Av c σ δ b→Av c' (z2q vs) (z2p outs) b:=fun {c'} hB' b z=>by
  by_cases hp:∃ (j:Nat) (d:D),ss[j]? = some (S.own d)∧vs[j]? = some (V.ref b)
  ·obtain ⟨j,d,e1,e2⟩:=hp
   obtain ⟨d',ed'⟩:=hio j d e1
   exact .inr ⟨j,d',someS_get.mpr ed',some'_get.mpr e2⟩
  ·exact .inl (by rw [hB',hB]; exact ⟨z,hp⟩)
 have okc:∀ (c1 c2:Fc),c1.H₀=c.H₀→c1.pin=c.pin→(∀ b,c1.B b→c.B b∨(c2.B b∧H b=none))→c2.pin=z1Z 0 ss vs→(∀ b,B b→c2.B b)→Ok c2 (z2q vs) (z2p outs) H'→(∀ b,c1.B b→∃ o,H' b=some o)→Ok c1 σ (putA as outs δ) H':=fun c1 c2 e0 e1 e2 e3 e4 k2 hex=>by
  have sub1:∀ b,Av c1 σ (putA as outs δ) b→Av c σ δ b∨H b=none:=fun b z=>by
   rcases z with z | z
   ·rcases e2 b z with z | ⟨_,z⟩
    ·exact .inl (.inl z)
    ·exact .inr z
   ·exact .inl (.inr (own_sub b z))
  have sub2:∀ b,Av c1 σ (putA as outs δ) b→Av c2 (z2q vs) (z2p outs) b:=fun b z=>by
   have bg:∀ b,Av c σ δ b→Av c2 (z2q vs) (z2p outs) b:=fun b z=>by
    by_cases hp:∃ (j:Nat) (d:D),ss[j]? = some (S.own d)∧vs[j]? = some (V.ref b)
    ·obtain ⟨j,d,e1,e2⟩:=hp
     obtain ⟨d',ed'⟩:=hio j d e1
     exact .inr ⟨j,d',someS_get.mpr ed',some'_get.mpr e2⟩
    ·exact .inl (e4 b (by rw [hB]; exact ⟨z,hp⟩))
   rcases z with z | z
   ·rcases e2 b z with z | ⟨z,_⟩
    ·exact bg b (.inl z)
    ·exact .inl z
   ·exact bg b (.inr (own_sub b z))
  have kp':∀ {v:V} {d:D},Rep H (Av c σ δ) v d→Rep H' (Av c1 σ (putA as outs δ)) v d:=fun {v d} r=>by
   have r1:Rep H (fun b=>Av c σ δ b∨Av c1 σ (putA as outs δ) b) v d:=r.anti fun b z=>z.elim .inl (sub1 b)
   exact (r1.keep fun b o e n=>kpAv b o e fun z=>n (.inl z)).anti fun b z=>.inl (.inr z)
  refine ⟨fun a o e n=>?_,hex,fun a z=>?_,by rw [z74]; exact k.len,fun i d e=>?_,fun i d e=>?_,fun i j a d d' f1 f2 f3 f4=>?_,by rw [e1]; exact k.pinned⟩
  ·rw [e0] at e
   have n':¬ c.I a:=fun z=>n (by unfold Fc.I at z ⊢; rw [e1]; exact z)
   refine x.keep a o (k.keep a o e n') fun z=>?_
   obtain ⟨i,d,g1,g2⟩:=passed a (ownIn a z)
   obtain ⟨a',g3,_,g4,_⟩:=k.own i d g1
   rw [g2] at g3; cases g3
   rcases g4 with g4 | g4
   ·exact n' g4
   ·rw [g4] at e; cases e
  ·have z':c.I a:=by unfold Fc.I at z ⊢; rw [← e1]; exact z
   obtain ⟨o,e⟩:=k.ith a z'
   exact x.there a o e
  ·obtain ⟨hi,e'⟩:=pureP i d e
   obtain ⟨v,g1,g2⟩:=k.slot i d e'
   exact ⟨v,g1,kp' g2⟩
  ·rcases slotP i d e with ⟨hi,e'⟩ | ⟨hi,j,d0,a,b1,b2,b3,b4,b5⟩
   ·obtain ⟨a,g1,g2,g3,g4⟩:=k.own i d e'
    have na:¬ Own (z2q vs) (z2p ss) a:=fun z=>by
     obtain ⟨j,d1,q1,q2⟩:=ownIn a z
     rcases h3 j _ _ q1 q2 with ⟨d',f,ee,_⟩ | ⟨d',i',ee,ai,es,ed⟩
     ·cases ee
     ·have:=k.inj i i' a d d' e' ed g1 es
      subst this
      exact hi (ios_mem.mpr (List.mem_of_getElem? ai))
    have g2':OwnAt H' (Av c1 σ (putA as outs δ)) a d:=by
     have o1:OwnAt H (fun b=>Av c σ δ b∨Av c1 σ (putA as outs δ) b) a d:=g2.anti fun b z=>z.elim .inl (sub1 b)
     exact (o1.keep (fun b o e n=>kpAv b o e fun z=>n (.inl z)) fun o e=>x.keep a o e na).anti fun b z=>.inl (.inr z)
    refine ⟨a,g1,g2',by unfold Fc.I at g3 ⊢; rw [e0,e1]; exact g3,fun z=>?_⟩
    rcases e2 a z with z | ⟨_,z⟩
    ·exact g4 z
    ·obtain ⟨o,eo⟩:=g2.some
     rw [z] at eo; cases eo
   ·obtain ⟨a',g1,g2,g3,g4⟩:=k2.own j d (someS_get.mpr b5)
    rw [some'_get.mpr b3] at g1
    cases g1
    obtain ⟨i0,d1,q1,q2⟩:=passed a ⟨j,d0,b2,b3⟩
    obtain ⟨a'',q3,q4,q5,q6⟩:=k.own i0 d1 q1
    rw [q2] at q3; cases q3
    refine ⟨a,b4,g2.anti fun b z=>.inl (sub2 b z),by unfold Fc.I at q5 ⊢; rw [e0,e1]; exact q5,fun z=>?_⟩
    rcases e2 a z with z | ⟨_,z⟩
    ·exact q6 z
    ·obtain ⟨o,eo⟩:=q4.some
     rw [z] at eo; cases eo
  ·obtain ⟨d1,g1⟩:∃ d1,δ[i]? = some (some (.own d1)):=by
    rcases slotP i d f1 with ⟨_,e'⟩ | ⟨hi,_⟩
    ·exact ⟨d,e'⟩
    ·obtain ⟨_,d1,_,_,_,_,_,a5⟩:=inIdx i hi
     exact ⟨d1,a5⟩
   obtain ⟨d2,g2⟩:∃ d2,δ[j]? = some (some (.own d2)):=by
    rcases slotP j d' f2 with ⟨_,e'⟩ | ⟨hi,_⟩
    ·exact ⟨d',e'⟩
    ·obtain ⟨_,d1,_,_,_,_,_,a5⟩:=inIdx j hi
     exact ⟨d1,a5⟩
   exact k.inj i j a d1 d2 g1 g2 f3 f4
 have ok1:Ok c σ (putA as outs δ) H':=okc c ⟨H,B,z1Z 0 ss vs,fun _ _=>False⟩ rfl rfl (fun b z=>.inl z) rfl (fun b z=>z) x.ok fun b z=>by
  obtain ⟨o,e⟩:=k.bd b z
  exact x.there b o e
 refine ⟨⟨ok1,fun a o e n=>x.keep a o e fun z=>n (passed a (ownIn a z)),fun a z=>.inl (own_sub a z),x.there⟩,fun v r hr=>?_⟩
 cases r with
 | pure d=>exact Rep.anti hr fun b z=>.inl (big rfl b (subA b z))
 | own d =>
  obtain ⟨a,ea,o,nb,h0,kp,hs⟩:=hr
  have hHa:H a=none:=hs
  have nav:¬ Av c σ δ a:=k.nav hHa
  refine ⟨a,ea,o.anti fun b z=>.inl ?_,fun z=>nav (.inl z),k.fresh₀ hHa,?_,hHa⟩
  ·rcases z with (z | z) | z
   ·exact (big rfl b (.inl z)).elim (fun z=>.inl (.inl z)) .inr
   ·exact .inl (.inr z)
   ·exact (big rfl b (.inr (own_sub b z))).elim (fun z=>.inl (.inl z)) .inr
  ·refine okc (c.plus a) (Fc.plus ⟨H,B,z1Z 0 ss vs,fun _ _=>False⟩ a) rfl rfl (fun b z=>?_) rfl (fun b z=>.inl z) kp fun b z=>?_
   ·rcases z with z | z
    ·exact .inl z
    ·exact .inr ⟨.inr z,by rw [z]; exact hHa⟩
   ·rcases z with z | z
    ·obtain ⟨o,e⟩:=k.bd b z
     exact x.there b o e
    ·rw [z]; exact o.some
end
def z1N (G:DF):Prop:=∀ ss r outs,G ss=some (r,outs)→outs.length=ss.length∧∀ (j:Nat),(∀ d,ss[j]? = some (.own d)→∃ d',outs[j]? = some (.own d'))∧∀ d,ss[j]? = some (.pure d)→∃ d',outs[j]? = some (.pure d')
theorem z9A {fb:DS} {n:Nat} {G:DF} (hG:∀ ss y,G ss=some y→runD fb n ss=some y):z1N G:=fun ss r outs h=>by
 have:=hG ss _ h
 unfold runD at this
 cases e:fb (z0h n ss) with
 | exc x δx=>rw [e] at this; cases this
 | stuck=>rw [e] at this; cases this
 | ok fl δ =>
  rw [e] at this
  simp only at this
  cases e1:z0y fl with
  | none=>rw [e1] at this; cases this
  | some r' =>
   rw [e1] at this
   simp only [Option.bind_some] at this
   cases e2:z0f 0 ss δ with
   | none=>rw [e2] at this; cases this
   | some os =>
    rw [e2] at this
    cases this
    obtain ⟨h1,h2⟩:=z78 e2
    refine ⟨h1,fun j=>⟨fun d ed=>?_,fun d ed=>?_⟩⟩
    ·rcases h2 j _ ed with ⟨d',z,_⟩ | ⟨d',d'',_,_,z⟩
     ·cases z
     ·exact ⟨d'',z⟩
    ·rcases h2 j _ ed with ⟨d',z,z'⟩ | ⟨d',d'',z,_⟩
     ·exact ⟨d',z'⟩
     ·cases z
section
variable {X:Cx} {c:Fc} {e:Expr} {es:List Expr} {as:List Ak} {k n:Nat} {x:Str} {G:DF} {pp pos:Pos}
theorem zbd {ps:List Str} (hK:z1N G) {σ:St} {H:Hp} {Q:VK} (hl:as.length=n) (h:tD c (z05 G as) σ H Q):zdH (spD n G) [] E0 (tX c as) σ H Q:=by
 obtain ⟨δ,kk,q⟩:=h
 unfold z05 at q
 split at q
 ·rename_i hc
  rw [Bool.and_eq_true] at hc
  have nd:=z6I hc.2
  rw [z0b] at q
  refine ⟨δ,kk,fun i hi=>?_,z07 q fun ds δ1 q1 vs H1 a1 r1=>?_⟩
  ·have:=List.all_eq_true.mp hc.1 i (ios_mem.mpr hi)
   unfold z0x at this
   split at this
   ·rename_i d ed
    exact z52 kk ed
   ·cases this
  ·cases em:mkA as ds δ1 with
   | none=>rw [em] at q1; exact q1.elim
   | some ss =>
    rw [em] at q1
    simp only at q1
    cases eg:G ss with
    | none=>rw [eg] at q1; exact q1.elim
    | some y =>
     obtain ⟨r,outs⟩:=y
     rw [eg] at q1
     have hin:=zds a1.ok r1 em nd
     obtain ⟨m1,m2,_⟩:=zaM r1 em
     obtain ⟨g1,g2⟩:=hK ss r outs eg
     refine ⟨ss,_,by rw [List.append_nil,← m2]; exact hl,by rw [List.append_nil]; exact hin,r,outs,eg,fun v H2 a2 r2=>?_⟩
     rw [List.append_nil] at a2 r2
     obtain ⟨o1,o2⟩:=zbW a1.ok r1 em nd rfl a2 (fun j d ed=>(g2 j).1 d ed) fun j d ed=>(g2 j).2 d ed
     exact q1 v H2 (a1.trans o1) (RepS.back (o2 v r r2) a1)
 ·exact q.elim
theorem z0c (F:KFn X.prog X.w X.K X.mg X.base k x n G) (hK:z1N G) (hr:Room k X.A) (hg:Gl X x) (ha:SX X c (e :: es) as) (hl:as.length=n) (hdb:(x == ("__debug__" : Str))=false:=by decide)
  (he:starEach (e :: es) X.env=(false,eval e X.env) :: starEach es X.env:=by rfl) (hpl:(backTo pos (starEach es X.env)).any (·.1)=false:=by rfl):SE X c (.Call (.Name x pp) (e :: es) [] pos) (z05 G as):=by
 obtain ⟨f,fd,ps,hm,hk,hb,ok⟩:=F
 exact PE.weak (zd3 ok hr hg hm hk hb .nil pass0 ha hdb he hpl) fun σ H Q h=>zbd (ps:=ps) hK hl h
end
open PySem PySem.Spec PyProof.Rows L2
def gOf (np:List Nat) (n:Nat) (b:DS):DF:=fun ss=>if ioOk np 0 ss then runD b n ss else none
theorem z0B {np:List Nat} {n:Nat} {b:DS} {ss:List S} {y:S×List S} (h:gOf np n b ss=some y):ioOk np 0 ss=true∧runD b n ss=some y:=by
 unfold gOf at h
 split at h
 ·rename_i hi; exact ⟨hi,h⟩
 ·cases h
theorem z0o {np:List Nat} {n:Nat} {b:DS}:z1N (gOf np n b):=z9A fun _ _ h=>(z0B h).2
theorem z22 {k:Nat} {A:Around} (r:Room k A):A.units + 64 < cLine:=by have:=r.un; omega
theorem z3m {c:Fc} {np cs:List Nat} (h:Np c np) (hc:cs.all (fun i=>!np.contains i)=true):∀ p ∈ c.pin,p.1 ∉ cs:=fun p hp z=>by
 have h1:=h p hp
 have h2:=List.all_eq_true.mp hc p.1 z
 rw [h1] at h2
 cases h2
def ndS:List Str→Bool
 | []=>true
 | x :: r=>!r.contains x && ndS r
theorem zcg:∀ {l:List Str},ndS l=true→l.Nodup
 | [],_=>.nil
 | x :: r,h=>by
  simp only [ndS,Bool.and_eq_true,Bool.not_eq_true'] at h
  exact List.nodup_cons.mpr ⟨fun hm=>by have:=h.1; simp at this; exact this hm,zcg h.2⟩
def z5a (names:List (Str×NameKind)) (x:Str) (k:NameKind):Bool:=match names.lookup x with
 | some j=>j == k
 | none=>false
theorem z7m {names:List (Str×NameKind)} {x:Str} {k:NameKind} (h:z5a names x k=true):names.lookup x=some k:=by
 unfold z5a at h
 split at h
 ·rename_i j e; rw [e,eq_of_beq h]
 ·cases h
def cscB (names:List (Str×NameKind)) (N:List Str) (sc:List (Str×NameKind)) (cs:List Nat):Bool :=
 sc.all (fun x=>!(x.2 == .local) || z5a sc x.1 .local) && sc.all (fun x=>!(x.2 == .free) || (z5a names x.1 .cell || z5a names x.1 .free)) && ndS (sc.map (·.1)) &&
 (List.range N.length).all fun i=>match N[i]? with
  | some x=>!(z5a sc x .local || z5a sc x .cell) || cs.contains i
  | none=>true
theorem z9f {names:List (Str×NameKind)} {x:Str} {k:NameKind} (h:names.lookup x=some k):z5a names x k=true:=by
 unfold z5a; rw [h]; simp
theorem z1o {X:Cx} {scope:Scope} {cs:List Nat} (hk:scope.kind = .function) (h:cscB X.env.scope.names X.N scope.names cs=true):CScope X scope cs:=by
 unfold cscB at h
 simp only [Bool.and_eq_true] at h
 obtain ⟨⟨⟨h1,h2⟩,h3⟩,h4⟩:=h
 refine ⟨hk,fun x hx hl=>?_,fun x hx hf=>?_,zcg h3,fun i x hi hl=>?_⟩
 ·have:=List.all_eq_true.mp h1 x hx
  rw [hl] at this
  exact z7m (by simpa using this)
 ·have:=List.all_eq_true.mp h2 x hx
  rw [hf] at this
  have:z5a X.env.scope.names x.1 .cell=true∨z5a X.env.scope.names x.1 .free=true:=by simpa using this
  exact this.elim (fun z=>.inl (z7m z)) fun z=>.inr (z7m z)
 ·have hil:i < X.N.length:=(List.getElem?_eq_some_iff.mp hi).1
  have:=List.all_eq_true.mp h4 i (List.mem_range.mpr hil)
  rw [hi] at this
  have hl':(z5a scope.names x .local || z5a scope.names x .cell)=true:=by
   rcases hl with z | z
   ·rw [z9f z]; rfl
   ·rw [z9f z]; simp
  simp only [hl',Bool.not_true,Bool.false_or] at this
  simpa using this
theorem zcs {K:PySem.W.Frag}:TyK K "int":=⟨rfl,rfl,rfl,rfl,rfl,rfl,rfl⟩
theorem zbp {K:PySem.W.Frag}:TyK K "bool":=⟨rfl,rfl,rfl,rfl,rfl,rfl,rfl⟩
theorem zcr {K:PySem.W.Frag}:TyK K "str":=⟨rfl,rfl,rfl,rfl,rfl,rfl,rfl⟩
theorem z9W {K:PySem.W.Frag}:TyK K "tuple":=⟨rfl,rfl,rfl,rfl,rfl,rfl,rfl⟩
def z4m:Expr→Bool
 | .Starred ..=>false
 | _=>true
theorem z51 {e:Expr} {es:List Expr} {env:Env} (h:z4m e=true):starEach (e :: es) env=(false,eval e env) :: starEach es env:=by
 cases e <;> first | (cases h; done) | rw [starEach] | rfl
 all_goals (intros; contradiction)
section
variable {X:Cx} {c:Fc} {e:Expr} {es:List Expr} {f fe:DE} {g:DA} {as:List Ak}
theorem z02 (ha:SE X c e f) (hr:SA X c es g) (hs:z4m e=true:=by rfl):SA X c (e :: es) (z09 f g):=zab ha hr (z51 hs)
theorem z00 (ha:SE X c e fe) (hr:SX X c es as) (hs:z4m e=true:=by rfl):SX X c (e :: es) (.val fe :: as):=zdI ha hr (z51 hs)
theorem z2a {i:Nat} (ha:PE X e (tVar i)) (hr:SX X c es as) (hs:z4m e=true:=by rfl):SX X c (e :: es) (.io i :: as):=sx_io ha hr (z51 hs)
end
mutual
def z3Y:Nat→Expr→Option D
 | _,.Constant (.int i) _ _=>some (.int i)
 | _,.Constant (.bool b) _ _=>some (.bl b)
 | _,.Constant .none _ _=>some .non
 | _,.Constant (.str x) _ _=>some (.str x.cps.toList)
 | n + 1,.Tuple es _ _=>if es.length≤1000 then (z4t n es).map .tup else none
 | _,_=>none
def z4t:Nat→List Expr→Option (List D)
 | _,[]=>some []
 | n,e :: es=>match z3Y n e,z4t n es with
  | some d,some ds=>some (d :: ds)
  | _,_=>none
end
theorem z9Q:∀ {n:Nat} {e:Expr} {d:D},z3Y n e=some d→z4m e=true:=fun {n e d} h=>by
 cases e <;> first | rfl | (cases n <;> simp [z3Y] at h)
mutual
theorem z7N {X:Cx} {c:Fc}:∀ {n:Nat} {e:Expr} {d:D},z3Y n e=some d→SE X c e (eD d)
 | _,.Constant (.int i) _ _,d,h=>by
  simp only [z3Y,Option.some.injEq] at h; subst h; exact z04
 | _,.Constant (.bool b) _ _,d,h=>by
  simp only [z3Y,Option.some.injEq] at h; subst h; exact z30
 | _,.Constant .none _ _,d,h=>by
  simp only [z3Y,Option.some.injEq] at h; subst h; exact z7M
 | _,.Constant (.str x) _ _,d,h=>by
  simp only [z3Y,Option.some.injEq] at h; subst h; exact z6E _ (zdC x)
 | 0,.Tuple es k pos,d,h=>by simp [z3Y] at h
 | n + 1,.Tuple es k pos,d,h=>by
  simp only [z3Y] at h
  split at h
  ·rename_i hl
   cases e:z4t n es with
   | none=>rw [e] at h; cases h
   | some ds =>
    rw [e] at h
    simp only [Option.map_some,Option.some.injEq] at h
    subst h
    exact z0G (z5P e) hl
  ·cases h
theorem z5P {X:Cx} {c:Fc}:∀ {n:Nat} {es:List Expr} {ds:List D},z4t n es=some ds→SA X c es (fun δ=>.ok ds δ)
 | _,[],ds,h=>by
  simp only [z4t,Option.some.injEq] at h; subst h; exact z0s
 | n,e :: es,ds,h=>by
  simp only [z4t] at h
  split at h
  ·rename_i d ds' h1 h2
   cases h
   exact zab (z7N h1) (z5P h2) (z51 (z9Q h1))
  ·cases h
end
def zdn (ds:List D):DE:=fun δ=>.ok (.own (.lst ds)) δ
theorem z4E {X:Cx} {c:Fc} {e:Expr} {d:D} (h:z3Y 9 e=some d):SE X c e (eD d):=z7N h
theorem za9 {X:Cx} {c:Fc} {es:List Expr} {ds:List D} {pos:Pos} (h:z4t 9 es=some ds) (hl:es.length≤1000):SE X c (.List es pos) (zdn ds):=z2Z (z5P h) hl
section
variable {X:Cx} {c:Fc} {e:Expr} {fe:DE} {pos:Pos} {tg:Expr}
theorem z4j {x:Str} {i:Int} (hg:Gl X x) (hm:∃ t,X.mg x=some (.int i t)) (hd:(x == ("__debug__" : Str))=false:=by decide):SE X c (.Name x pos) (eD (.int i)):=by
 obtain ⟨t,h⟩:=hm
 exact z9z hg h hd
theorem z6W (he:SE X c e fe) (hs:swapsWith e none pos.line X.env=pure false:=by rfl):SS X c (.Expr e pos) (z6s fe) :=
 zcz he (fun _=>hs) trivial (zas he hs)
theorem z3w {i:Nat} {o:Expr} {apos cpos:Pos} (ho:PE X o (tVar i)) (he:SE X c e fe)
  (hbase:attributeBase o "append" X.env (eval o X.env)=eval o X.env:=by rfl)
  (hfew:((backTo cpos (starEach [e] X.env)).all (fun x=>!x.1) && (backToKw cpos (keywordEach [] X.env)).all (fun x=>x.1.isSome)
   && decide ([e].length + ([]:List Keyword).length + (if ([]:List Keyword).isEmpty then 0 else 1) < 30))=true:=by rfl)
  (hline:(apos.endLine == cpos.line)=true:=by rfl) (hs:starEach [e] X.env=(false,eval e X.env) :: starEach [] X.env:=by rfl)
  (hsw:swapsWith (.Call (.Attribute o "append" apos) [e] [] cpos) none pos.line X.env=pure false:=by rfl):SS X c (.Expr (.Call (.Attribute o "append" apos) [e] [] cpos) pos) (z0W i fe) :=
 za0 (p0:=apos) ho he (zas (zep PySem.F.plainAttrs_list PySem.F.slot_list_append PySem.F.type_list_append z8a ho (z2s he z4f hs) hbase hfew hline hs rfl) hsw)
end
open PySem PySem.Spec PyProof.Rows L2
def noL (K:PySem.W.Frag):Bool:=K.all fun p=>match p.2.cls with
 | .type t=>!(t == "list")
 | _=>true
theorem zch {α β:Type} [BEq α] [LawfulBEq α]:∀ {K:List (α×β)} {a:α} {o:β},K.lookup a=some o→(a,o) ∈ K
 | [],a,o,e=>by simp at e
 | (b,o') :: r,a,o,e=>by
  rw [List.lookup_cons] at e
  cases hb:a == b with
  | true =>
   rw [hb] at e
   have h1:o'=o:=Option.some.inj e
   have h2:a=b:=eq_of_beq hb
   rw [h1,h2]
   exact List.mem_cons_self
  | false =>
   rw [hb] at e
   exact List.mem_cons_of_mem _ (zch e)
theorem zeB {K:PySem.W.Frag} {a:Addr} {o:Obj} (h:noL K=true) (e:K.lookup a=some o) (hc:o.cls = .type "list"):False:=by
 have hm:(a,o) ∈ (K:List (Addr×Obj)):=zch e
 have h1:=List.all_eq_true.mp h (a,o) hm
 have h2:(match o.cls with | .type t=>!(t == "list") | _=>true)=true:=h1
 rw [hc] at h2
 have h3:(!(("list" : String) == "list"))=true:=h2
 rw [beq_self_eq_true] at h3
 cases h3
theorem zeE {K:PySem.W.Frag} {G:DF} {H:Hp} {a:Addr} {ns:List Int} {E:XK} (hK:noL K=true) (hS:SqL K H a (ns.map V.int)) (hG:∃ outs,G [.pure (.lst (ns.map .int))]=some (.pure (.bl true),outs)) :
  spD 1 G [.ref a] H (fun v _=>v = .bl true) E:=by
 have hR:Rd H a (.lst (ns.map V.int)):=by
  rcases hS with h | ⟨o,its,n,e,hc,_⟩
  ·exact h
  ·exact (zeB hK e hc).elim
 obtain ⟨outs,hg⟩:=hG
 have rep:∀ O:Addr→Prop,¬ O a→Rep H O (.ref a) (.lst (ns.map D.int)):=fun O hO=>.lst hO hR (by simp) fun i v d e1 e2=>by
  rw [List.getElem?_map] at e1 e2
  cases e:ns[i]? with
  | none=>rw [e] at e1; cases e1
  | some k=>rw [e] at e1 e2; cases e1; cases e2; exact .int k
 refine ⟨[.pure (.lst (ns.map .int))],fun _=>False,rfl,⟨fun b o e _=>e,fun b z=>z.elim,fun b ⟨i,z⟩=>?_,rfl,fun i d e=>?_,fun i d e=>?_,fun i j b d d' e1 e2 e3 e4=>?_,fun p z=>?_⟩,_,outs,hg,fun v H' x r=>?_⟩
 ·simp [z1Z] at z
 ·cases i with
  | zero =>
   simp at e
   subst e
   refine ⟨.ref a,rfl,rep _ fun z=>?_⟩
   rcases z with z | ⟨j,d',z1,z2⟩
   ·exact z
   ·cases j with
    | zero=>simp at z1
    | succ j=>simp at z1
  | succ i=>simp at e
 ·cases i with
  | zero=>simp at e
  | succ i=>simp at e
 ·cases i with
  | zero=>simp at e1
  | succ i=>simp at e1
 ·simp [z1Z] at z
 ·cases r
  rfl
theorem walkD {l:PySem.W.OpenLaw} {q:Program} {loose:List Str} {XP:(Str→Option Value)→Heap→Prop} {YP:World→Heap→Prop} {d:DefRec} {K:Params→PySem.W.Frag} {k:Nat} {G:DF} (hn:l.most=some 63) (hdf:d.params.defaults=[]) (hr:Room k callerA)
  (hY:∀ (w:World) (h:Heap),YP w h→(K w.params).In h) (hL:∀ p:Params,noL (K p)=true)
  (hG:∀ ns:List Int,ns.length≤63→∃ outs,G [.pure (.lst (ns.map .int))]=some (.pure (.bl true),outs))
  (F:∀ (w:World) (mg:Str→Option Value) (fa:Addr) (h:Heap),(K w.params).In h→h.Ns mainGlobals mg→mg d.name=some (.ref fa) →
   ∃ fd:FuncData,(∀ (s:Shared) (u:Value),BindsTo s fd ⟨[u],[]⟩ [("script",u)])∧∀ base:Heap,(K w.params).In base→base.Ns mainGlobals mg→FnOk l.prog w (K w.params) mg base CX0 k fa fd ["script"] (spD 1 G)) :
  PySem.W.WalkO q loose XP YP l.row.toRowW d [] (fun f vs=>PySem.call f vs) :=
 L2.walk_of (n:=63) (k:=k) (x:="script") (CX:=fun _=>CX0) (sp:=fun _=>spD 1 G) hn (by decide) hdf hr hY F (fun w H a ns hl _ hS=>zeE (hL w.params) hS (hG ns hl)) fun _ _ _ _ _ z=>z
end DV
set_option Elab.async false
set_option linter.all false
set_option maxRecDepth 100000
set_option maxHeartbeats 400000
namespace L2
open PySem PySem.Spec PyProof.Rows
def Its (x:Str):It:=⟨fun i _=>i < x.cps.size,fun i H y H'=>H'=H∧∃ c,x.cps[i]? = some c∧y = .str ⟨#[c]⟩,fun i _=>i=x.cps.size⟩
theorem zbq {P:Program} {w:World} {K:PySem.W.Frag} {tg:Expr} (x:Str) (t:Tok) (it:Addr) (T:String) (hT:T = "str_ascii_iterator"∨T = "str_iterator"):Turn P w K tg (Its x) [it] it (fun i h=>h.IsStrIter it T x t i):=by
 have W:∀ A:Around,A.handled=none→Walks P w A it [it] [it] x.cps.size (SignAt x) (fun i h=>h.IsStrIter it T x t i):=fun A hh=>by
  rcases hT with rfl | rfl
  ·exact Walks.strAscii hh it x t
  ·exact Walks.strWide hh it x t
 refine ⟨by simp,fun i h st b hb=>?_,fun i h h' st k=>?_,?_,?_,fun A i s Q E st h=>?_⟩
 ·have e:b=it:=by simpa using hb
  subst e
  obtain ⟨o,e,c,d⟩:=st
  exact ⟨o,e,fun v z=>by rw [d] at z; cases z⟩
 ·obtain ⟨o,e,r⟩:=st
  exact ⟨o,k it (by simp) o e,r⟩
 ·intro X hP hw hK hc i pins s σ H E I hf st hg
  subst hP hw hK
  obtain ⟨f0,f1,f2,f3,f4,f5⟩:=hf it (by simp)
  refine (W X.A (I.ok.hd hc)).item i s _ _ hg st fun v h' tk hv st' kk=>?_
  obtain ⟨c,u,hx,rfl⟩:=hv
  have I1:Inv X pins σ H { s with heap:=h',toks:=tk }:=I.turned (fun b o hb e=>kk b o (by simpa using hb) e) f0 f1 f3 f4 f5
  obtain ⟨o,e,c',d⟩:=id st'
  refine ⟨_,rfl,zbQ (s:={ s with heap:=h',toks:=tk }) e c' d (by rcases hT with rfl | rfl <;> decide) ⟨.str ⟨#[c]⟩,H,I1,⟨u,rfl⟩,⟨rfl,c,hx,rfl⟩,st',fun b hb=>(hf b hb).1⟩⟩
 ·intro X hP hw hK hc i pins s σ H E I hf st hg
  subst hP hw hK
  have hg':i=x.cps.size:=hg
  subst hg'
  obtain ⟨f0,f1,f2,f3,f4,f5⟩:=hf it (by simp)
  exact (W X.A (I.ok.hd hc)).done s _ _ st fun h' tk eb=>⟨rfl,I.turned (fun b o hb e=>eb b o (by simpa using hb) e) f0 f1 f3 f4 f5⟩
 ·rcases hT with rfl | rfl
  ·exact wpAny_pyIter_striter_ascii st h
  ·exact wpAny_pyIter_striter_wide st h
end L2
namespace DV
open PySem PySem.Spec PyProof.Rows L2
section
variable {X:Cx} {c:Fc} {tg e:Expr} {fe:DE} {pos pp:Pos}
def iSeqS (K:PySem.W.Frag) (tl:TE):TI:=fun σ H R=>tl σ H fun x H1=>(∃ a,x = .ref a∧(∃ xs,SqL K H1 a xs)∧R (Itl K a) H1)∨(∃ a,x = .ref a∧(∃ xs,SqT K H1 a xs)∧R (Itt K a) H1)∨∃ z,x = .str z∧R (Its z) H1
theorem zd0 {l:Expr} {tl:TE} (hl:PE X l tl):PI X tg l (iSeqS X.K tl):=by
 intro pins s σ H R I h
 refine thn (hl pins s σ H _ I h) fun v s1 ⟨x,H1,I1,r1,q1⟩=>?_
 rcases q1 with q1 | q1 | ⟨z,e,q⟩
 ·obtain ⟨a,e,⟨xs,hq⟩,q⟩:=q1
  subst e
  cases r1
  obtain ⟨its,rv,p,hz⟩:=I1.list hq
  refine wpAny_pyIter_list p.isList ?_
  refine ⟨s1.heap.objs.size,[s1.heap.objs.size],_,_,H1,rfl,I1.kept (t':=s1.toks) fun b o e=>Heap.get?_push_of_some _ e,z9X a _,⟨_,Heap.get?_push_size _ rfl,rfl,rfl⟩,fun b hb=>?_,q⟩
  have e:b=s1.heap.objs.size:=by simpa using hb
  subst e
  exact I1.fpOk (Nat.le_refl _) (I1.hok.fresh (Nat.le_refl _))
 ·obtain ⟨a,e,⟨xs,hq⟩,q⟩:=q1
  subst e
  cases r1
  obtain ⟨its,rv,p,hz⟩:=I1.tuple hq
  refine wpAny_pyIter_tuple (show s1.heap.IsTuple a its.toArray from p) ?_
  refine ⟨s1.heap.objs.size,[s1.heap.objs.size],_,_,H1,rfl,I1.kept (t':=s1.toks) fun b o e=>Heap.get?_push_of_some _ e,z9x a _,⟨_,Heap.get?_push_size _ rfl,rfl,rfl⟩,fun b hb=>?_,q⟩
  have e:b=s1.heap.objs.size:=by simpa using hb
  subst e
  exact I1.fpOk (Nat.le_refl _) (I1.hok.fresh (Nat.le_refl _))
 ·subst e
  obtain ⟨t,rfl⟩:=r1
  refine wpAny_pyIter_strU ?_
  have hT:strIterType z = "str_ascii_iterator"∨strIterType z = "str_iterator":=by
   unfold strIterType
   split
   ·exact .inl rfl
   ·exact .inr rfl
  refine ⟨s1.heap.objs.size,[s1.heap.objs.size],_,_,H1,rfl,I1.kept (t':=s1.toks) fun b o e=>Heap.get?_push_of_some _ e,zbq z t _ _ hT,⟨_,Heap.get?_push_size _ rfl,rfl,rfl⟩,fun b hb=>?_,q⟩
  have e:b=s1.heap.objs.size:=by simpa using hb
  subst e
  exact I1.fpOk (Nat.le_refl _) (I1.hok.fresh (Nat.le_refl _))
theorem zeO {σ:St} {δ:Dl} {H:Hp} (z:Tx):ItOk c σ δ H (Its (toS z)) (z.map fun n=>D.str [n]):=by
 intro H2 kp
 have hsz:(toS z).cps.size=z.length:=by simp [toS]
 refine ⟨by show (z.map _).length=_; rw [hsz]; simp,fun i d e=>?_⟩
 rw [List.getElem?_map] at e
 cases ez:z[i]? with
 | none=>rw [ez] at e; cases e
 | some n =>
  rw [ez] at e
  cases e
  have hi:i < z.length:=(List.getElem?_eq_some_iff.mp ez).1
  refine ⟨by show i < _; rw [hsz]; exact hi,fun x H3 ⟨e3,cc,hc,hx⟩=>.inl ⟨e3,?_⟩⟩
  have:(toS z).cps[i]? = z[i]?:=by simp [toS]
  rw [this,ez] at hc
  cases hc
  rw [hx]
  exact .str [n]
def iSq (f:DE):DI:=fun δ=>(f δ).bind fun r δ1=>match r.d with
 | .lst ds=>.ok ds δ1
 | .tup ds=>.ok ds δ1
 | .str x=>.ok (x.map fun n=>.str [n]) δ1
 | _=>.stuck
theorem z3q (he:SE X c e fe):SI X c tg e (iSq fe):=PI.weak (zd0 he) fun σ H R ⟨δ,k,q⟩=>by
 unfold iSq at q
 rw [z0b] at q
 refine ⟨δ,k,z07 q fun r δ1 q1 v H1 a1 r1=>?_⟩
 have rr:=r1.rep
 generalize r.d=d at q1 rr
 cases d <;> first | exact q1.elim | skip
 ·cases rr
  exact .inr (.inr ⟨_,rfl,q1 _ H1 a1 (zeO _)⟩)
 ·cases rr with
  | tup h1 h2 h3 h4=>exact .inr (.inl ⟨_,rfl,⟨_,.of h2⟩,q1 _ H1 a1 (zeN _ h2 (fun z=>h1 (.inr z)) ⟨h3,h4⟩)⟩)
 ·cases rr with
  | lst h1 h2 h3 h4 =>
   refine .inl ⟨_,rfl,⟨_,.inl h2⟩,q1 _ H1 a1 ?_⟩
   intro H2 kp
   rename_i a vs
   have h5:Rd H2 a (.lst vs):=Rd.keep h2 fun o e=>kp a o e fun z=>h1 (.inr z)
   have r':Reps H1 (Av c σ δ1) vs _:=⟨h3,h4⟩
   refine ⟨⟨vs,.inl h5,by rw [r'.1]; exact Nat.le_refl _⟩,fun i d e=>?_⟩
   obtain ⟨v,ev,rv⟩:=r'.get e
   refine ⟨⟨vs,v,.inl h5,ev⟩,fun x H3 ⟨e3,y⟩=>.inl ⟨e3,?_⟩⟩
   have:=y vs (.inl h5)
   rw [ev] at this
   cases this
   exact rv
end
end DV
set_option Elab.async false
set_option linter.all false
set_option maxRecDepth 100000
set_option maxHeartbeats 400000
namespace L2
open PySem PySem.Spec PyProof.Rows
theorem z6r (a:Int) (t:Tok) (l:Addr) (dd:Option Addr) (items:Array Value) (n:Nat) (sl:Array (Option Value)) :
  Meets (Builtin.«int.__rmul__» ⟨[.int a t,.ref l],[]⟩) (fun _ R s=>s.heap.get? l=some { cls:=.type "tuple",dict:=dd,data:=.seq items n,slots:=sl }∧R (.ok (.ret Value.notImplemented)) s) :=
 .of_wp fun prog w A R s h=>by obtain ⟨hp,g,d,tk,os⟩:=s; obtain ⟨hl,h⟩:=h; wp_walk; exact ⟨_,rfl,h⟩
theorem z5s:fillsNumberSlot (.type "tuple") "mul" = pure false :=
 PySem.fillsNumberSlot_seq (id:="tuple.__mul__") (r:=some (.builtin "tuple.__rmul__")) F.slot_tuple_mul.lookup (by decide +kernel) F.slot_tuple_rmul.lookup (by decide +kernel)
theorem z7S:seqRepeat? (.type "tuple")=pure (some (.builtin "tuple.__mul__")):=by
 unfold seqRepeat?
 rw [PySem.seqSlot_of (T:="tuple") (name:="__mul__") (id:="tuple.__mul__") F.slot_tuple_mul.lookup (by decide +kernel),PySem.seqSlot_of (T:="tuple") (name:="__rmul__") (id:="tuple.__rmul__") F.slot_tuple_rmul.lookup (by decide +kernel)]
 rfl
theorem z6h (l:Addr) (dd:Option Addr) (items:Array Value) (n:Nat) (sl:Array (Option Value)) (x:Int) (u:Tok) (h1:¬ (decide (x < -(2 ^ 63)) || decide (x ≥ 2 ^ 63))=true) (h2:¬ (items.isEmpty || x == 1)=true) (h3:¬ (decide (x≤0) || items.isEmpty)=true) (h4:¬ items.size * x > (2 ^ 63 - 1) / 8) (h5:¬ Builtin.Tuple.tupleTooMany (items.size * x)=true) (h6:((List.replicate x.toNat items).foldl (· ++ ·) #[]).size≤sizeLine) :
  Meets (Builtin.«tuple.__mul__» ⟨[.ref l,.int x u],[]⟩) (fun _ R s=>s.heap.get? l=some { cls:=.type "tuple",dict:=dd,data:=.seq items n,slots:=sl } ∧
   R (.ok (.ret (.ref s.heap.objs.size))) { s with heap:=s.heap.push { cls:=.type "tuple",data:=.seq ((List.replicate x.toNat items).foldl (· ++ ·) #[]) } }) :=
 .of_wp fun prog w A R s h=>by
  obtain ⟨hp,g,d,tk,os⟩:=s; obtain ⟨hl,h⟩:=h
  wp_walk
  rw [if_neg h1]
  wp_walk
  try rw [if_neg h2]
  try wp_walk
  try rw [if_neg h3]
  try wp_walk
  try rw [if_neg h4]
  try wp_walk
  try rw [if_neg h5]
  try wp_walk
  exact ⟨_,rfl,h⟩
theorem z7s {α:Type} (its:List α):∀ (k:Nat) (acc:List α),List.foldl (fun x1 x2:Array α=>x1 ++ x2) acc.toArray (List.replicate k its.toArray)=(acc ++ (List.replicate k its).flatten).toArray
 | 0,acc=>by simp
 | k + 1,acc=>by
  rw [List.replicate_succ,List.foldl_cons,show acc.toArray ++ its.toArray=(acc ++ its).toArray by simp,z7s its k]
  simp [List.replicate_succ]
section
variable {X:Cx}
def zdX (K:PySem.W.Frag):R2:=fun x y H Q=>∃ l k xs,x = .ref l∧y = .int k∧SqT K H l xs∧xs≠[]∧2≤k∧k≤1000000∧xs.length * k.toNat≤sizeLine∧∀ p,H p=none→Q (.ref p) (upd H p (.tup (List.replicate k.toNat xs).flatten))
theorem zd5:OpR X (binaryOp .Mult) (zdX X.K):=by
 intro pins s σ H x y v u Q I rx ry h
 obtain ⟨l,k,xs,rfl,rfl,hH,hne,h1,h2,hz,q⟩:=h
 cases rx
 obtain ⟨t,rfl⟩:=ry
 obtain ⟨its,r,pl,hl⟩:=I.tuple hH
 obtain ⟨⟨cls,dd,data,sl⟩,ho,hc,n,hd⟩:=id pl
 simp only at hc hd
 subst hc hd
 have hlen:its.toArray.size=xs.length:=by rw [List.size_toArray]; exact r.length.symm
 have hem:its.toArray.isEmpty=false:=by
  cases its with
  | nil=>exact absurd (r.nil_iff.mp rfl) hne
  | cons a b=>rfl
 have hline:sizeLine=16777216:=rfl
 have hk:(k.toNat:Int)=k:=by omega
 have hmul:((its.toArray.size:Nat):Int) * k=((xs.length * k.toNat:Nat):Int):=by rw [hlen,Int.natCast_mul,hk]
 have hfold:List.foldl (fun x1 x2=>x1 ++ x2) #[] (List.replicate k.toNat its.toArray)=(List.replicate k.toNat its).flatten.toArray:=by
  have:=z8i its k.toNat []
  rw [List.nil_append] at this
  exact this
 refine wpAny_binaryOp_repeat_ref (T:="tuple") (U:="int") (by decide) ⟨_,ho,rfl⟩ (fun s'=>typeIs_int s' k t) z5s F.fills_int_mul F.slot_int_rmul z7S F.slot_int_index.lookup
  (call_meets F.slot_int_rmul (typeIs_int s k t) F.entry_int_rmul (F.args_int_rmul_2 _ _) (z6r k t l dd its.toArray n sl)
   ⟨ho,rfl,⟨_,ho,rfl⟩,call_meets F.slot_tuple_mul ⟨_,ho,rfl⟩ F.entry_tuple_mul (F.args_tuple_mul_2 _ _) (z6h l dd its.toArray n sl k t ?_ ?_ ?_ ?_ ?_ ?_) ⟨ho,?_⟩⟩)
 ·simp; omega
 ·rw [hem]; simp; omega
 ·rw [hem]; simp; omega
 ·rw [hmul]; omega
 ·rw [hmul]
  unfold Builtin.Tuple.tupleTooMany
  rw [hline] at hz
  generalize xs.length * k.toNat=m at hz
  simp only [hline,decide_eq_true_eq]
  omega
 ·rw [hfold,List.size_toArray,z8Q,← r.length,Nat.mul_comm]; exact hz
 ·rw [hfold]
  have I1:Inv X pins σ (upd H s.heap.objs.size (.tup (List.replicate k.toNat xs).flatten)) { s with heap:=s.heap.push { cls:=.type "tuple",data:=.seq (List.replicate k.toNat its).flatten.toArray } } :=
   I.laid (t':=s.toks) (fun b o e=>Heap.get?_push_of_some _ e) (Nat.le_refl _) (show ObjOk X.prog X.w _ _ _ (.tup (List.replicate k.toNat xs).flatten) from ⟨by rw [z8Q,Nat.mul_comm]; exact hz,(List.replicate k.toNat its).flatten,r.rep k.toNat,IsTupN.new _ _⟩)
  exact ⟨.ref _,_,I1,rfl,q _ (I.hok.fresh (Nat.le_refl _))⟩
def zdY:R2:=fun x y H Q=>∃ z k,x = .str z∧y = .int k∧2≤k∧k≤1000000∧0 < z.length∧z.length * k.toNat≤sizeLine∧Q (.str ⟨(List.replicate k.toNat z.cps).foldl (· ++ ·) #[]⟩) H
theorem op_repS:OpR X (binaryOp .Mult) zdY:=by
 intro pins s σ H x y v u Q I rx ry h
 obtain ⟨z,k,rfl,rfl,h1,h2,h0,hz,q⟩:=h
 obtain ⟨t,rfl⟩:=rx
 obtain ⟨t',rfl⟩:=ry
 have hline:sizeLine=16777216:=rfl
 have c1:¬ k < 1:=by omega
 have c2:(k == 1 || z.length == 0)=false:=by
  simp
  omega
 refine PySem.P.mul_str (by simp; omega) (fun _ _=>?_) (fun _ _=>?_) ?_
 ·have hm:(z.length:Int) * k≤16777216:=by
   have:(z.length:Int) * k=((z.length * k.toNat:Nat):Int):=by rw [Int.natCast_mul,show (k.toNat:Int)=k by omega]
   rw [this]
   rw [hline] at hz
   omega
  have:(z.length:Int)≤(2 ^ 63 - 1) / k:=(Int.le_ediv_iff_mul_le (by omega)).mpr (by omega)
  omega
 ·unfold Builtin.Str.tooLong
  rw [hline] at hz
  generalize z.length * k.toNat=m at hz
  simp only [hline,decide_eq_false_iff_not]
  omega
 ·rw [if_neg c1,if_neg (by rw [c2]; simp)]
  have hsz:((List.replicate k.toNat z.cps).foldl (· ++ ·) #[]).size=k.toNat * z.length:=by
   have h:=z7s z.cps.toList k.toNat []
   simp only [List.nil_append,Array.toArray_toList] at h
   rw [h,List.size_toArray,z8Q]
   simp [Str.length]
  exact ⟨by show ((List.replicate k.toNat z.cps).foldl (· ++ ·) #[]).size≤_; rw [hsz,Nat.mul_comm]; exact hz,.str _,H,I.tok _,⟨_,rfl⟩,q⟩
theorem z6D:∀ {xs:List Nat} {us:List Value},us.length=xs.length→(∀ (j n:Nat) (v:Value),xs[j]? = some n→us[j]? = some v→∃ w,v = .str ⟨#[n]⟩ w)→Vals (xs.map fun n=>V.str ⟨#[n]⟩) us
 | [],[],_,_=>.nil
 | [],u :: us,h,_=>by simp at h
 | x :: xs,[],h,_=>by simp at h
 | x :: xs,u :: us,h,k=>.cons (by obtain ⟨w,e⟩:=k 0 x u rfl rfl; exact ⟨w,e⟩) (z6D (by simpa using h) fun j n v h1 h2=>k (j + 1) n v (by simpa using h1) (by simpa using h2))
theorem z6t (hc:X.calm=true):CallR X (.type "list") (fun xs H Q=>∃ z:Str,xs=[.str z]∧z.cps.size≤sizeLine∧∀ l,H l=none→Q (.ref l) (upd H l (.lst (z.cps.toList.map fun n=>V.str ⟨#[n]⟩)))):=by
 intro pins s σ H xs us Q I r h
 obtain ⟨z,rfl,hz,q⟩:=h
 obtain ⟨u,rfl,t,rfl⟩:=z5k r
 refine call_list_str (hn:=hz) (I.ok.hd hc) z t fun h' tk acc c' kp e hacc=>?_
 have hv:Vals (z.cps.toList.map fun n=>V.str ⟨#[n]⟩) acc.toList:=z6D (by simp [hacc.1]) fun j n v h1 h2=>by
  obtain ⟨c,w,h3,h4⟩:=hacc.2 j v (by simpa using h2)
  rw [show z.cps[j]? = some n by simpa using h1] at h3
  cases h3
  exact ⟨w,h4⟩
 exact ⟨.ref s.heap.objs.size,_,I.laid (t':=tk) kp (Nat.le_refl _) (show ObjOk X.prog X.w _ h' _ (.lst _) from ⟨by simpa using hz,acc.toList,c',hv,by simpa using e⟩),rfl,q _ (I.hok.fresh (Nat.le_refl _))⟩
end
end L2
set_option Elab.async false
set_option linter.all false
set_option maxRecDepth 100000
set_option maxHeartbeats 400000
namespace DV
open PySem PySem.Spec PyProof.Rows L2
def z2g:D→D→Option S
 | .int i,.int j=>pMul (.int i) (.int j)
 | .str x,.int k=>if 2≤k∧k≤1000000∧0 < x.length∧x.length * k.toNat≤sizeLine then some (.pure (.str (List.replicate k.toNat x).flatten)) else none
 | .tup xs,.int k=>if 2≤k∧k≤1000000∧0 < xs.length∧xs.length * k.toNat≤sizeLine then some (.pure (.tup (List.replicate k.toNat xs).flatten)) else none
 | _,_=>none
def zdZ (K:PySem.W.Frag):R2:=fun x y H Q=>rI CMul (fun i j=>V.int (i * j)) x y H Q∨zdY x y H Q∨zdX K x y H Q
theorem z37 {X:Cx}:OpR X (binaryOp .Mult) (zdZ X.K):=op_mul.or (op_repS.or zd5)
theorem Reps.rep {H:Hp} {O:Addr→Prop} {vs:List V} {ds:List D} (h:Reps H O vs ds):∀ k:Nat,Reps H O (List.replicate k vs).flatten (List.replicate k ds).flatten
 | 0=>.nil
 | k + 1=>by rw [List.replicate_succ,List.replicate_succ,List.flatten_cons,List.flatten_cons]; exact h.append (Reps.rep h k)
theorem z39 {K:PySem.W.Frag}:Op2 (zdZ K) z2g:=by
 intro c σ δ H x y d e s Q k rx ry hp q
 cases d <;> cases e <;> first | (simp [z2g] at hp; done) | skip
 ·exact .inl (zew c σ δ H x y _ _ s Q k rx ry hp q)
 ·rename_i z n
  simp only [z2g] at hp
  split at hp
  ·rename_i h
   cases hp
   refine .inr (.inl ⟨toS z,n,rx.str,ry.int,h.1,h.2.1,by rw [z34]; exact h.2.2.1,by rw [z34]; exact h.2.2.2,?_⟩)
   have e:(⟨(List.replicate n.toNat (toS z).cps).foldl (· ++ ·) #[]⟩:Str)=toS (List.replicate n.toNat z).flatten:=by
    unfold toS
    congr 1
    have:=z7s z n.toNat []
    rw [List.nil_append] at this
    exact this
   rw [e]
   exact q _ H (.refl k) (.str _)
  ·cases hp
 ·rename_i ds n
  simp only [z2g] at hp
  split at hp
  ·rename_i h
   cases hp
   obtain ⟨a,vs,ex,ha,r⟩:=rx.tup
   refine .inr (.inr ⟨a,n,vs,ex,ry.int,.of ha,?_,h.1,h.2.1,by rw [r.1]; exact h.2.2.2,fun p hp'=>?_⟩)
   ·intro z
    rw [z] at r
    have:=r.1
    simp at this
    omega
   ·exact q _ _ (.alloc k hp' _) (RepS.newT k (Reps.rep r _) hp')
  ·cases hp
theorem RepS.newD {c:Fc} {σ:St} {δ:Dl} {H:Hp} {p:Addr} (k:Ok c σ δ H) (hp:H p=none):RepS c σ δ H (upd H p (.dK [])) (.ref p) (.own (.dct [])):=by
 refine ⟨p,rfl,⟨[],z1m,rfl,fun i p q e=>by simp at e⟩,fun z=>k.nav hp (.inl z),k.fresh₀ hp,k.plus hp _,hp⟩
def z8k:DE:=fun δ=>.ok (.own (.dct [])) δ
theorem zbu {X:Cx} {c:Fc} {pos:Pos}:SE X c (.Dict [] [] pos) z8k:=PE.weak zbF fun σ H Q ⟨δ,k,q⟩=>fun p hp=>q _ _ (.alloc k hp _) (RepS.newD k hp)
def z4J:D→Option S
 | .lst ds=>some (.own (.lst ds))
 | .tup ds=>some (.own (.lst ds))
 | .str x=>if x.length≤sizeLine then some (.own (.lst (x.map fun n=>.str [n]))) else none
 | _=>none
section
variable {X:Cx} {c:Fc} {e a x y:Expr} {fb:BE} {f g fa:DE} {pos pp p p2:Pos}
theorem z6F {H:Hp} {O:Addr→Prop}:∀ z:Tx,Reps H O (z.map fun n=>V.str ⟨#[n]⟩) (z.map fun n=>D.str [n])
 | []=>.nil
 | n :: r=>.cons (.str [n]) (z6F r)
theorem z93 (hc:X.calm=true) (hg:Gl X "list") (hm:X.mg "list" = none) (he:SB X c e fb) (hs:z4m e=true:=by rfl):SE X c (.Call (.Name "list" pp) [e] [] pos) (eC1 z4J fb) :=
 z4F (r:=fun v H Q=>(∃ p ys,v = .ref p∧(SqL X.K H p ys∨SqT X.K H p ys)∧∀ l,H l=none→Q (.ref l) (upd H l (.lst ys)))∨∃ z:Str,v = .str z∧z.cps.size≤sizeLine∧∀ l,H l=none→Q (.ref l) (upd H l (.lst (z.cps.toList.map fun n=>V.str ⟨#[n]⟩))))
  (call_list_of.or (z6t hc)) (fun v H Q h=>by
   rcases h with ⟨p,ys,e,h⟩ | ⟨z,e,h⟩
   ·exact .inl ⟨p,ys,by rw [e],h⟩
   ·exact .inr ⟨z,by rw [e],h⟩)
  (fun c σ δ H x d s Q k rx hp q=>by
   cases d with
   | lst ds =>
    cases hp
    obtain ⟨a,vs,ex,ha,r⟩:=rx.lst
    exact .inl ⟨a,vs,ex,.inl (.inl ha),fun l hl=>q _ _ (.alloc k hl _) (RepS.newL k r hl)⟩
   | tup ds =>
    cases hp
    obtain ⟨a,vs,ex,ha,r⟩:=rx.tup
    exact .inl ⟨a,vs,ex,.inr (.of ha),fun l hl=>q _ _ (.alloc k hl _) (RepS.newL k r hl)⟩
   | str z =>
    simp only [z4J] at hp
    split at hp
    ·rename_i hz
     cases hp
     refine .inr ⟨toS z,rx.str,by simpa [toS] using hz,fun l hl=>?_⟩
     have:(toS z).cps.toList=z:=by simp [toS]
     rw [this]
     exact q _ _ (.alloc k hl _) (RepS.newL k (z6F z) hl)
    ·cases hp
   | _=>simp [z4J] at hp) hg hm PyProof.Rows.boot_list he (by decide) (by decide) (z51 hs)
end
end DV
set_option Elab.async false
set_option linter.all false
set_option maxRecDepth 100000
set_option maxHeartbeats 1000000
namespace L2
open PySem PySem.Spec PyProof.Rows
theorem z3X:entryFor table "dict.update.loop" = some Builtin.«dict.update.loop»:=entryFor_of_tree (by kernel_rfl)
theorem z21:plainId "dict.update.loop" = true:=by decide +kernel
theorem z62:typeLookup (.type "tuple") "keys" = pure none:=by rw [typeLookup_type,builtinLookup_eq_fast]; kernel_rfl
theorem z6p:typeLookup (.type "list") "keys" = pure none:=by rw [typeLookup_type,builtinLookup_eq_fast]; kernel_rfl
set_option maxRecDepth 8000 in
theorem z89 {prog:Program} {w:World} {A:Around} {E:Value→Shared→Prop} {s:Shared} {a:Addr} {o:Obj} {xs:Array Value} {k:Nat} {Q:Option Value→Shared→Prop}
  (hx:s.heap.get? a=some o) (hc:o.cls = .type "tuple") (hdat:o.data = .seq xs k) (hd:o.dict=none) (hA:A.handled=none)
  (h:∀ h' tk,(∀ b ob,s.heap.get? b=some ob→h'.get? b=some ob)→Q none { s with heap:=h',toks:=tk }) :
  wpAny (model prog w) A (getAttr? (.ref a) "keys") Q E s:=by
 obtain ⟨c,dct,dat,sl⟩:=o
 simp only at hc hdat hd
 subst hc hdat hd
 obtain ⟨hp,g,d,tk,os⟩:=s
 have hT:∀ tk',(⟨hp,g,d,tk',os⟩:Shared).TypeIs (.ref a) "tuple":=fun _=>⟨_,hx,rfl⟩
 have f1:=sub_AttributeError
 have f3:=F.slot_tuple_getattribute.lookup
 have f4:=F.slot_tuple_getattribute.bind (.ref a)
 have f5:=am_tuple_getattr_none
 have hmiss:=z62
 unfold getAttr? getAttrBy? getAttrBy
 repeat (any_goals (first | assumption | exact hT _ | ((with_reducible show wpAny _ _ (call (Value.builtin "tuple.__getattribute__") _ _) _ _ _); refine call_meets F.slot_tuple_getattribute (hT _) am_entry_tuple_getattribute (F.args_tuple_getattribute_2 _ _) (meets_getattribute_miss_tuple a xs k sl "keys" _ hmiss (by decide +kernel)) ⟨hx,hA,fun h' tk' e hx'=>?_⟩) | wp_step))
 obtain ⟨t',u',he⟩:=hx'.there
 show wpAny _ _ (getattributeRaised _ _ _ _ _ _ _) _ _ _
 unfold getattributeRaised
 repeat (any_goals (first | assumption | wp_step))
 exact h _ _ hx'.keeps
set_option maxRecDepth 8000 in
theorem z8M {prog:Program} {w:World} {A:Around} {E:Value→Shared→Prop} {s:Shared} {a:Addr} {o:Obj} {xs:Array Value} {k:Nat} {Q:Option Value→Shared→Prop}
  (hx:s.heap.get? a=some o) (hc:o.cls = .type "list") (hdat:o.data = .seq xs k) (hd:o.dict=none) (hA:A.handled=none)
  (h:∀ h' tk,(∀ b ob,s.heap.get? b=some ob→h'.get? b=some ob)→Q none { s with heap:=h',toks:=tk }) :
  wpAny (model prog w) A (getAttr? (.ref a) "keys") Q E s:=by
 obtain ⟨c,dct,dat,sl⟩:=o
 simp only at hc hdat hd
 subst hc hdat hd
 obtain ⟨hp,g,d,tk,os⟩:=s
 have hT:∀ tk',(⟨hp,g,d,tk',os⟩:Shared).TypeIs (.ref a) "list":=fun _=>⟨_,hx,rfl⟩
 have f1:=sub_AttributeError
 have f3:=F.slot_list_getattribute.lookup
 have f4:=F.slot_list_getattribute.bind (.ref a)
 have f5:=am_list_getattr_none
 have hmiss:=z6p
 unfold getAttr? getAttrBy? getAttrBy
 repeat (any_goals (first | assumption | exact hT _ | ((with_reducible show wpAny _ _ (call (Value.builtin "list.__getattribute__") _ _) _ _ _); refine call_meets F.slot_list_getattribute (hT _) am_entry_list_getattribute (F.args_list_getattribute_2 _ _) (meets_getattribute_miss_list a xs k sl "keys" _ hmiss (by decide +kernel)) ⟨hx,hA,fun h' tk' e hx'=>?_⟩) | wp_step))
 obtain ⟨t',u',he⟩:=hx'.there
 show wpAny _ _ (getattributeRaised _ _ _ _ _ _ _) _ _ _
 unfold getattributeRaised
 repeat (any_goals (first | assumption | wp_step))
 exact h _ _ hx'.keeps
def z2P (kps:List (Key×V)) (acc:List (Key×V)):List (Key×V):=kps.foldl (fun a kv=>putK a kv.1 kv.2) acc
theorem zb3 {prog:Program} {w:World} {A:Around} {R:Result→Shared→Prop} {s:Shared} {dl it:Addr} {i:Int} {t0:Tok}
  (hn:wpAny (model prog w) A.in1 (pyNext (.ref it)) (fun r s1=>∃ (q:Addr) (k v:Value) (n:Nat),r=some (.ref q)∧s1.heap.get? q=some { cls:=.type "tuple",dict:=none,data:=.seq #[k,v] n,slots:=#[] } ∧
   wpAny (model prog w) A.in1 (dictSet dl k v) (fun _ s2=>codeAny (model prog w) A (.builtin "dict.update.loop" ⟨[.ref dl,.ref it,rawInt (i + 1),.none],[]⟩) R s2) (fun _ _=>False) s1) (fun _ _=>False) s) :
  codeAny (model prog w) A (.builtin "dict.update.loop" ⟨[.ref dl,.ref it,.int i t0,.none],[]⟩) R s:=by
 refine codeAny_builtin z3X ?_
 rw [Around.under_plainId z21 _]
 show wpAny _ A.in1 (pyNext (.ref it) >>= _) _ _ s
 refine wpAny_bind (wpAny_mono hn (fun r s1 hr=>?_) fun _ _ z=>z.elim)
 obtain ⟨q,k,v,n,rfl,hq,hd⟩:=hr
 dsimp only
 refine wpAny_bind ?_
 try with_reducible refine wpAny_holding ?_
 refine wpAny_bind (wpAny_tryCatch ?_)
 have hT:s1.TypeIs (.ref q) "tuple":=⟨_,hq,rfl⟩
 unfold Builtin.Dict.pairItems
 refine wpAny_bind (wpAny_typeOf hT ?_)
 rw [if_pos (by decide)]
 refine wpAny_bind ?_
 unfold seqItems?
 refine wpAny_bind (wpAny_load hq (wpAny_pure ?_))
 refine wpAny_pure ?_
 show wpAny _ A.in1 (holding [k,v] (dictSet dl k v)) _ _ s1
 try with_reducible refine wpAny_holding ?_
 refine wpAny_mono hd (fun _ s2 h2=>?_) fun _ _ z=>z.elim
 exact wpAny_pure ⟨plainId_quiet z21 _,h2⟩
theorem zb4 {prog:Program} {w:World} {A:Around} {R:Result→Shared→Prop} {s:Shared} {dl it:Addr} {i:Int} {t0:Tok}
  (hn:wpAny (model prog w) A.in1 (pyNext (.ref it)) (fun r s1=>r=none∧R (.ok (.ret .none)) s1) (fun _ _=>False) s) :
  codeAny (model prog w) A (.builtin "dict.update.loop" ⟨[.ref dl,.ref it,.int i t0,.none],[]⟩) R s:=by
 refine codeAny_builtin z3X ?_
 rw [Around.under_plainId z21 _]
 show wpAny _ A.in1 (pyNext (.ref it) >>= _) _ _ s
 refine wpAny_bind (wpAny_mono hn (fun r s1 hr=>?_) fun _ _ z=>z.elim)
 obtain ⟨rfl,hd⟩:=hr
 dsimp only
 show wpAny _ A.in1 (Builtin.Dict.addKeywords dl [] >>= _) _ _ s1
 exact wpAny_bind (wpAny_pure (wpAny_pure hd))
section
variable {X:Cx} {pins:List (Addr×Obj)} {σ:St} {H:Hp}
theorem Rd.sub {H H':Hp} {a:Addr} {u:HO} (h:Rd H a u) (k:∀ b o,H b=some o→H' b=some o):Rd H' a u:=by
 rcases h with h | ⟨o,h⟩
 ·exact .inl (k _ _ h)
 ·exact .inr ⟨o,k _ _ h⟩
def z7F (H:Hp) (ys:List V) (kps:List (Key×V)):Prop:=ys.length=kps.length∧∀ (i:Nat) y kv,ys[i]? = some y→kps[i]? = some kv→∃ q,y = .ref q∧H q=some (.tup [kV kv.1,kv.2])
theorem z4Q:∀ (kps acc:List (Key×V)),(z2P kps acc).length≤acc.length + kps.length
 | [],acc=>Nat.le_refl _
 | kv :: r,acc=>by
  have h1:=z4Q r (putK acc kv.1 kv.2)
  have h2:=z64 acc kv.1 kv.2
  show (z2P r (putK acc kv.1 kv.2)).length≤_
  simp only [List.length_cons]
  omega
theorem z8E (kps:List (Key×V)) (kv:Key×V) (acc:List (Key×V)):z2P (kps ++ [kv]) acc=putK (z2P kps acc) kv.1 kv.2:=by
 unfold z2P
 rw [List.foldl_append]
 rfl
theorem z8l {A:Around} {R:Result→Shared→Prop} {dl it:Addr} {ys:List V} {kps:List (Key×V)} {tn:Nat→Heap→Prop} (hP:z7F H ys kps) (hdl:H dl=none) (hz:kps.length≤sizeLine)
  (item:∀ (i:Nat) (y:V) (H':Hp) (s:Shared) (Q:Option Value→Shared→Prop),(∀ b o,H b=some o→H' b=some o)→H' it=none→Inv X pins σ H' s→tn i s.heap→ys[i]? = some y→(∀ u s',RelV y u→Inv X pins σ H' s'→tn (i + 1) s'.heap→Q (some u) s')→wpAny (model X.prog X.w) A.in1 (pyNext (.ref it)) Q (fun _ _=>False) s)
  (done:∀ (H':Hp) (s:Shared) (Q:Option Value→Shared→Prop),(∀ b o,H b=some o→H' b=some o)→H' it=none→Inv X pins σ H' s→tn ys.length s.heap→(∀ s',Inv X pins σ H' s'→Q none s')→wpAny (model X.prog X.w) A.in1 (pyNext (.ref it)) Q (fun _ _=>False) s)
  (keep:∀ (i:Nat) (h h':Heap),tn i h→(∀ o,h.get? it=some o→h'.get? it=some o)→tn i h') (hit:H it=none) (hne:it≠dl) (hR:∀ s',Inv X pins σ (upd H dl (.dK (z2P kps []))) s'→R (.ok (.ret .none)) s') :
  ∀ (k i:Nat) (s:Shared) (j:Int) (t0:Tok),ys.length - i=k→i≤ys.length→Inv X pins σ (upd H dl (.dK (z2P (kps.take i) []))) s→tn i s.heap →
   codeAny (model X.prog X.w) A (.builtin "dict.update.loop" ⟨[.ref dl,.ref it,.int j t0,.none],[]⟩) R s:=by
 have up:∀ (acc:List (Key×V)) b o,H b=some o→upd H dl (.dK acc) b=some o:=fun acc b o e=>by rw [z0K (z14 e hdl)]; exact e
 have nit:∀ acc:List (Key×V),upd H dl (.dK acc) it=none:=fun acc=>by rw [z0K hne]; exact hit
 intro k
 induction k with
 | zero =>
  intro i s j t0 hk hi I st
  have e:i=ys.length:=by omega
  subst e
  rw [hP.1,List.take_of_length_le (Nat.le_refl _)] at I
  refine zb4 (done _ s _ (up _) (nit _) I st fun s' I'=>⟨rfl,hR s' I'⟩)
 | succ k ih =>
  intro i s j t0 hk hi I st
  have hlt:i < ys.length:=by omega
  have hlk:i < kps.length:=by rw [← hP.1]; exact hlt
  obtain ⟨q,ey,hq⟩:=hP.2 i ys[i] kps[i] (by simp [hlt]) (by simp [hlk])
  -- the item is a tuple of two
  have main:∀ s1,Inv X pins σ (upd H dl (.dK (z2P (kps.take i) []))) s1→tn (i + 1) s1.heap→∃ (kk vv:Value) (n:Nat),s1.heap.get? q=some { cls:=.type "tuple",dict:=none,data:=.seq #[kk,vv] n,slots:=#[] }∧RelV (kV kps[i].1) kk∧RelV kps[i].2 vv:=fun s1 I1 _=>by
   obtain ⟨_,its,r,n,e⟩:=(show ObjOk X.prog X.w _ s1.heap q (.tup [kV kps[i].1,kps[i].2]) from I1.hok q _ (up _ q _ hq))
   obtain ⟨u,v,rfl,r1,r2⟩:=Vals.two r
   exact ⟨u,v,n,e,r1,r2⟩
  refine zb3 (item i ys[i] _ s _ (up _) (nit _) I st (by simp [hlt]) fun u s' ru I' st'=>?_)
  rw [ey] at ru
  cases ru
  obtain ⟨kk,vv,n,e,r1,r2⟩:=main s' I' st'
  refine ⟨q,kk,vv,n,rfl,e,?_⟩
  obtain ⟨z,hd,vs,rel,dd⟩:=zf0 I'.hok z1m
  have hvs:vs.length≤sizeLine:=by rw [← rel.length]; exact z
  have hl:(putK (z2P (kps.take i) []) kps[i].1 kps[i].2).length≤sizeLine:=by
   have h1:=z64 (z2P (kps.take i) []) kps[i].1 kps[i].2
   have h2:=z4Q (kps.take i) []
   simp at h2
   omega
  refine wpAny_dictSet_pairs (hsz:=hvs) (zaR r1) dd fun h' dd' hs=>?_
  have he:∃ q,h'.get? dl=some q:=let ⟨q,_,_,hq,_⟩:=dd'; ⟨q,hq⟩
  have I2:=zdq (t':=s'.toks + 1) I' (by rw [z1m]; exact True.intro) hs he (zf1 hl hd (rel.put kps[i].1 r2) dd')
  rw [zcq] at I2
  have et:kps.take (i + 1)=kps.take i ++ [kps[i]]:=by rw [List.take_add_one]; simp [hlk]
  rw [show putK (z2P (kps.take i) []) kps[i].1 kps[i].2=z2P (kps.take (i + 1)) [] by rw [et,z8E]] at I2
  exact ih (i + 1) _ (j + 1) _ (by omega) hlt I2 (keep (i + 1) _ _ st' fun o eo=>(hs.2 it hne).trans eo)
theorem z6d (hc:X.calm=true):CallR X (.type "dict") (fun xs H Q=>∃ p ys kps,xs=[.ref p]∧(H p=some (.tup ys)∨Rd H p (.lst ys))∧z7F H ys kps∧kps.length≤sizeLine∧∀ l,H l=none→Q (.ref l) (upd H l (.dK (z2P kps [])))):=by
 intro pins s σ H xs us Q I r h
 obtain ⟨p,ys,kps,rfl,hp,hP,hz,q⟩:=h
 obtain ⟨u,rfl,rx⟩:=z5k r
 cases rx
 have hA:X.A.handled=none:=I.ok.hd hc
 refine callType_codes (Q₁:=fun obj s₁=>obj = .ref s.heap.objs.size∧s₁ = { s with heap:=s.heap.push { cls:=.type "dict",data:=.dict #[] } }) F.kt_called_dict (F.kt_typeCall_dict_1 _) F.entry_dict_init (kt_code_dict_new _ ⟨rfl,rfl⟩) ?_
 rintro obj s₁ ⟨rfl,rfl⟩
 have hdl:H s.heap.objs.size=none:=I.hok.fresh (Nat.le_refl _)
 have I1:Inv X pins σ (upd H s.heap.objs.size (.dK [])) { s with heap:=s.heap.push { cls:=.type "dict",data:=.dict #[] } }:=I.laid (t':=s.toks) (fun _ _ q=>Heap.get?_push_of_some _ q) (Nat.le_refl _) (z9s s.heap I.big)
 generalize hdd:s.heap.objs.size=dl at hdl I1
 have up:∀ (acc:List (Key×V)) b o,H b=some o→upd H dl (.dK acc) b=some o:=fun acc b o e=>by rw [z0K (z14 e hdl)]; exact e
 have hTd:({ s with heap:=s.heap.push { cls:=.type "dict",data:=.dict #[] } }:Shared).TypeIs (.ref dl) "dict":=⟨_,by rw [← hdd]; exact Heap.get?_push_size _ rfl,rfl⟩
 refine ⟨hTd,F.args_dict_init_2 _ _,?_⟩
 unfold Builtin.«dict.__init__»
 refine wpAny_bind ?_
 unfold Builtin.Dict.selfAndRest
 refine wpAny_bind (wpAny_notOrdered_dict hTd ?_)
 show wpAny _ _ (pure (dl,[Value.ref p])) _ _ _
 refine wpAny_pure ?_
 show wpAny _ _ (Builtin.Dict.updateFrom "dict.__init__" dl (.ref p) [] .none) _ _ _
 unfold Builtin.Dict.updateFrom
 have fin:∀ s',Inv X pins σ (upd H dl (.dK (z2P kps []))) s'→EP X pins σ Q (.ref dl) s':=fun s' I'=>⟨.ref dl,_,I',rfl,q dl hdl⟩
 rcases hp with hp | hp
 ·obtain ⟨_,its,r,n,e⟩:=(show ObjOk X.prog X.w _ (s.heap.push { cls:=.type "dict",data:=.dict #[] }) p (.tup ys) from I1.hok p _ (up _ p _ hp))
  refine wpAny_bind (wpAny_typeOf ⟨_,e,rfl⟩ ?_)
  rw [if_pos (by decide)]
  refine wpAny_bind (z89 e rfl rfl rfl hA fun h' tk kp=>?_)
  rw [if_pos (show (none:Option Value).isNone=true from rfl)]
  refine wpAny_bind (wpAny_rule ?_)
  have I2:Inv X pins σ (upd H dl (.dK [])) { s with heap:=h',toks:=tk }:=I1.kept kp
  have isT:h'.IsTuple p its.toArray:=⟨_,kp _ _ e,rfl,n,rfl⟩
  refine wpAny_bind (wpAny_pyIter_tuple (s:={ s with heap:=h',toks:=tk }) isT ?_)
  refine wpAny_pure ⟨plainId_quiet z21 _,?_⟩
  have hfr:upd H dl (.dK []) h'.objs.size=none:=I2.hok.fresh (Nat.le_refl _)
  have hne:h'.objs.size≠dl:=fun z=>by rw [z,z1m] at hfr; cases hfr
  have hit:H h'.objs.size=none:=by rw [z0K hne] at hfr; exact hfr
  have fp:∀ H':Hp,H' h'.objs.size=none→FpOk X pins H' h'.objs.size:=fun H' hn=>I2.fpOk (Nat.le_refl _) hn
  refine z8l (X:=X) (pins:=pins) (σ:=σ) (H:=H) (dl:=dl) (it:=h'.objs.size) (ys:=ys) (kps:=kps) (tn:=fun i h=>h.IsTupleIter h'.objs.size p i) hP hdl hz ?_ ?_ (fun i h h2 st k=>st.at k) hit hne (fun s' I'=>⟨rfl,fin s' I'⟩) ys.length 0 _ 0 _ (Nat.sub_zero _) (Nat.zero_le _) ?_ ?_
  ·intro i y H' s' Q' sub hn I' st hy k
   obtain ⟨_,its2,r2,n2,e2⟩:=(show ObjOk X.prog X.w _ s'.heap p (.tup ys) from I'.hok p _ (sub p _ hp))
   obtain ⟨v,hv,rv⟩:=r2.get hy
   obtain ⟨f0,f1,f2,f3,f4,f5⟩:=fp H' hn
   refine wpAny_pyNext_tuple_item st (items:=its2.toArray) ⟨_,e2,rfl,n2,rfl⟩ (x:=v) (by simpa using hv) fun h3 st3 sb=>?_
   exact k v { s' with heap:=h3 } rv (I'.turned (t':=s'.toks) (fun b o hb e=>(sb.2 b hb).trans e) f0 f1 f3 f4 f5) st3
  ·intro H' s' Q' sub hn I' st k
   obtain ⟨_,its2,r2,n2,e2⟩:=(show ObjOk X.prog X.w _ s'.heap p (.tup ys) from I'.hok p _ (sub p _ hp))
   obtain ⟨f0,f1,f2,f3,f4,f5⟩:=fp H' hn
   have hl2:=r2.length
   exact wpAny_pyNext_tuple_end (show X.A.in1.in1.handled=none from hA) st (items:=its2.toArray) ⟨_,e2,rfl,n2,rfl⟩ (by simp; omega) fun h3 eb=>k { s' with heap:=h3 } (I'.turned (t':=s'.toks) (fun b o hb e=>eb b o hb e) f0 f1 f3 f4 f5)
  ·exact I2.kept (t':=tk) fun b o e=>Heap.get?_push_of_some _ e
  ·exact ⟨_,Heap.get?_push_size _ rfl,rfl,rfl⟩
 ·obtain ⟨_,its,n,r,e⟩:=(show ObjOk X.prog X.w _ (s.heap.push { cls:=.type "dict",data:=.dict #[] }) p (.lst ys) from (Rd.sub hp (up _)).ok I1.hok)
  refine wpAny_bind (wpAny_typeOf ⟨_,e,rfl⟩ ?_)
  rw [if_pos (by decide)]
  refine wpAny_bind (z8M e rfl rfl rfl hA fun h' tk kp=>?_)
  rw [if_pos (show (none:Option Value).isNone=true from rfl)]
  refine wpAny_bind (wpAny_rule ?_)
  have I2:Inv X pins σ (upd H dl (.dK [])) { s with heap:=h',toks:=tk }:=I1.kept kp
  have isT:h'.IsList p its.toArray:=⟨_,kp _ _ e,rfl,n,rfl⟩
  refine wpAny_bind (wpAny_pyIter_list (s:={ s with heap:=h',toks:=tk }) isT ?_)
  refine wpAny_pure ⟨plainId_quiet z21 _,?_⟩
  have hfr:upd H dl (.dK []) h'.objs.size=none:=I2.hok.fresh (Nat.le_refl _)
  have hne:h'.objs.size≠dl:=fun z=>by rw [z,z1m] at hfr; cases hfr
  have hit:H h'.objs.size=none:=by rw [z0K hne] at hfr; exact hfr
  have fp:∀ H':Hp,H' h'.objs.size=none→FpOk X pins H' h'.objs.size:=fun H' hn=>I2.fpOk (Nat.le_refl _) hn
  refine z8l (X:=X) (pins:=pins) (σ:=σ) (H:=H) (dl:=dl) (it:=h'.objs.size) (ys:=ys) (kps:=kps) (tn:=fun i h=>h.IsListIter h'.objs.size p i) hP hdl hz ?_ ?_ (fun i h h2 st k=>st.at k) hit hne (fun s' I'=>⟨rfl,fin s' I'⟩) ys.length 0 _ 0 _ (Nat.sub_zero _) (Nat.zero_le _) ?_ ?_
  ·intro i y H' s' Q' sub hn I' st hy k
   obtain ⟨_,its2,n2,r2,e2⟩:=(show ObjOk X.prog X.w _ s'.heap p (.lst ys) from (Rd.sub hp sub).ok I'.hok)
   obtain ⟨v,hv,rv⟩:=r2.get hy
   obtain ⟨f0,f1,f2,f3,f4,f5⟩:=fp H' hn
   refine wpAny_pyNext_list_item st (items:=its2.toArray) ⟨_,e2,rfl,n2,rfl⟩ (x:=v) (by simpa using hv) fun h3 st3 sb=>?_
   exact k v { s' with heap:=h3 } rv (I'.turned (t':=s'.toks) (fun b o hb e=>(sb.2 b hb).trans e) f0 f1 f3 f4 f5) st3
  ·intro H' s' Q' sub hn I' st k
   obtain ⟨_,its2,n2,r2,e2⟩:=(show ObjOk X.prog X.w _ s'.heap p (.lst ys) from (Rd.sub hp sub).ok I'.hok)
   obtain ⟨f0,f1,f2,f3,f4,f5⟩:=fp H' hn
   have hl2:=r2.length
   exact wpAny_pyNext_list_end (show X.A.in1.in1.handled=none from hA) st (items:=its2.toArray) ⟨_,e2,rfl,n2,rfl⟩ (by simp; omega) fun h3 eb=>k { s' with heap:=h3 } (I'.turned (t':=s'.toks) (fun b o hb e=>eb b o hb e) f0 f1 f3 f4 f5)
  ·exact I2.kept (t':=tk) fun b o e=>Heap.get?_push_of_some _ e
  ·exact ⟨_,Heap.get?_push_size _ rfl,rfl,rfl⟩
end
end L2
set_option Elab.async false
set_option linter.all false
set_option maxRecDepth 100000
set_option maxHeartbeats 400000
namespace DV
open PySem PySem.Spec PyProof.Rows L2
def valD (kvs:List (DKey×D)) (k:DKey):Option D:=(kvs.find? fun kv=>decide (kv.1=k)).map (·.2)
def putD (kvs:List (DKey×D)) (k:DKey) (v:D):List (DKey×D) :=
 if (kvs.any fun kv=>decide (kv.1=k))=true then kvs.map (fun kv=>if kv.1=k then (kv.1,v) else kv) else kvs ++ [(k,v)]
def z8D (kps acc:List (DKey×D)):List (DKey×D):=kps.foldl (fun a kv=>putD a kv.1 kv.2) acc
theorem zdd {k j:DKey} (h:kOf k=kOf j):k=j:=by
 cases k <;> cases j <;> simp [kOf] at h
 ·rw [h]
 ·rw [z8v h]
def DR (H:Hp) (O:Addr→Prop):List (Key×V)→List (DKey×D)→Prop
 | [],[]=>True
 | p :: ws,q :: ds=>p.1=kOf q.1∧Rep H O p.2 q.2∧DR H O ws ds
 | _,_=>False
section
variable {H H':Hp} {O O':Addr→Prop}
theorem DR.of:∀ {ws:List (Key×V)} {ds:List (DKey×D)},ws.map (·.1)=ds.map (fun p=>kOf p.1)→(∀ (i:Nat) p q,ws[i]? = some p→ds[i]? = some q→Rep H O p.2 q.2)→DR H O ws ds
 | [],[],_,_=>trivial
 | [],_ :: _,h,_=>by simp at h
 | _ :: _,[],h,_=>by simp at h
 | p :: ws,q :: ds,h,k=>by
  simp only [List.map_cons,List.cons.injEq] at h
  exact ⟨h.1,k 0 p q rfl rfl,DR.of h.2 fun i p' q' e1 e2=>k (i + 1) p' q' (by simpa using e1) (by simpa using e2)⟩
theorem DR.keys:∀ {ws:List (Key×V)} {ds:List (DKey×D)},DR H O ws ds→ws.map (·.1)=ds.map (fun p=>kOf p.1)
 | [],[],_=>rfl
 | [],_ :: _,h=>h.elim
 | _ :: _,[],h=>h.elim
 | p :: ws,q :: ds,h=>by simp only [List.map_cons,h.1,DR.keys h.2.2]
theorem DR.vals:∀ {ws:List (Key×V)} {ds:List (DKey×D)},DR H O ws ds→∀ (i:Nat) p q,ws[i]? = some p→ds[i]? = some q→Rep H O p.2 q.2
 | [],[],_,i,p,q,e,_=>by simp at e
 | [],_ :: _,h,_,_,_,_,_=>h.elim
 | _ :: _,[],h,_,_,_,_,_=>h.elim
 | p :: ws,q :: ds,h,i,p',q',e1,e2=>by
  cases i with
  | zero=>simp at e1 e2; subst e1 e2; exact h.2.1
  | succ i=>exact DR.vals h.2.2 i p' q' (by simpa using e1) (by simpa using e2)
theorem DR.map:∀ {ws:List (Key×V)} {ds:List (DKey×D)},DR H O ws ds→(∀ v d,Rep H O v d→Rep H' O' v d)→DR H' O' ws ds
 | [],[],_,_=>trivial
 | [],_ :: _,h,_=>h.elim
 | _ :: _,[],h,_=>h.elim
 | p :: ws,q :: ds,h,k=>⟨h.1,k _ _ h.2.1,DR.map h.2.2 k⟩
theorem z4n {p:Key} {q k:DKey} (h:p=kOf q):(p=kOf k) ↔ q=k:=⟨fun e=>zdd (by rw [← h]; exact e),fun e=>by rw [h,e]⟩
theorem DR.any:∀ {ws:List (Key×V)} {ds:List (DKey×D)} (k:DKey),DR H O ws ds→(ws.any fun kv=>decide (kv.1=kOf k))=ds.any fun kv=>decide (kv.1=k)
 | [],[],_,_=>rfl
 | [],_ :: _,_,h=>h.elim
 | _ :: _,[],_,h=>h.elim
 | p :: ws,q :: ds,k,h=>by
  rw [List.any_cons,List.any_cons,DR.any k h.2.2]
  congr 1
  exact decide_eq_decide.mpr (z4n h.1)
theorem DR.val:∀ {ws:List (Key×V)} {ds:List (DKey×D)} (k:DKey),DR H O ws ds→(valD ds k=none∧valV ws (kOf k)=none)∨∃ v d,valD ds k=some d∧valV ws (kOf k)=some v∧Rep H O v d
 | [],[],_,_=>.inl ⟨rfl,rfl⟩
 | [],_ :: _,_,h=>h.elim
 | _ :: _,[],_,h=>h.elim
 | p :: ws,q :: ds,k,h=>by
  by_cases e:q.1=k
  ·have e':=(z4n h.1).mpr e
   exact .inr ⟨p.2,q.2,by simp [valD,List.find?_cons,e],z5x e',h.2.1⟩
  ·have e':¬ p.1=kOf k:=fun z=>e ((z4n h.1).mp z)
   have ev:valD (q :: ds) k=valD ds k:=by simp [valD,List.find?_cons,e]
   rw [ev,z5y e']
   exact DR.val k h.2.2
theorem DR.append:∀ {ws ws':List (Key×V)} {ds ds':List (DKey×D)},DR H O ws ds→DR H O ws' ds'→DR H O (ws ++ ws') (ds ++ ds')
 | [],_,[],_,_,h'=>h'
 | [],_,_ :: _,_,h,_=>h.elim
 | _ :: _,_,[],_,h,_=>h.elim
 | p :: ws,_,q :: ds,_,h,h'=>⟨h.1,h.2.1,DR.append h.2.2 h'⟩
theorem DR.store:∀ {ws:List (Key×V)} {ds:List (DKey×D)} {k:DKey} {v:V} {d:D},DR H O ws ds→Rep H O v d→DR H O (ws.map fun kv=>if kv.1=kOf k then (kv.1,v) else kv) (ds.map fun kv=>if kv.1=k then (kv.1,d) else kv)
 | [],[],_,_,_,_,_=>trivial
 | [],_ :: _,_,_,_,h,_=>h.elim
 | _ :: _,[],_,_,_,h,_=>h.elim
 | p :: ws,q :: ds,k,v,d,h,r=>by
  refine ⟨?_,?_,DR.store h.2.2 r⟩
  ·by_cases e:q.1=k
   ·dsimp only; rw [if_pos ((z4n h.1).mpr e),if_pos e]; exact h.1
   ·dsimp only; rw [if_neg fun z=>e ((z4n h.1).mp z),if_neg e]; exact h.1
  ·by_cases e:q.1=k
   ·dsimp only; rw [if_pos ((z4n h.1).mpr e),if_pos e]; exact r
   ·dsimp only; rw [if_neg fun z=>e ((z4n h.1).mp z),if_neg e]; exact h.2.1
theorem DR.put {ws:List (Key×V)} {ds:List (DKey×D)} {k:DKey} {v:V} {d:D} (h:DR H O ws ds) (r:Rep H O v d):DR H O (putK ws (kOf k) v) (putD ds k d):=by
 unfold putK putD
 rw [DR.any k h]
 split
 ·exact DR.store h r
 ·exact DR.append h ⟨rfl,r,trivial⟩
theorem DR.puts:∀ {kps:List (Key×V)} {dps:List (DKey×D)} {ws:List (Key×V)} {ds:List (DKey×D)},DR H O kps dps→DR H O ws ds→DR H O (z2P kps ws) (z8D dps ds)
 | [],[],_,_,_,h=>h
 | [],_ :: _,_,_,h,_=>h.elim
 | _ :: _,[],_,_,h,_=>h.elim
 | p :: kps,q :: dps,ws,ds,h,h'=>by
  show DR H O (z2P kps (putK ws p.1 p.2)) (z8D dps (putD ds q.1 q.2))
  rw [h.1]
  exact DR.puts h.2.2 (DR.put h' h.2.1)
end
def keyD:D→Option DKey
 | .int i=>some (.inl i)
 | .str x=>some (.inr x)
 | _=>none
theorem zad {H:Hp} {O:Addr→Prop} {v:V} {d:D} {k:DKey} (h:keyD d=some k) (r:Rep H O v d):v=kV (kOf k):=by
 cases d <;> simp [keyD] at h <;> subst h <;> cases r <;> rfl
theorem z95 {c:Fc} {σ:St} {δ:Dl} {H:Hp} {v:V} {d:D} {k:DKey} (h:keyD d=some k) (r:RepB c σ δ H v d):v=kV (kOf k):=by
 rcases r with r | ⟨a,rfl,r⟩
 ·exact zad h r
 ·cases d <;> simp [keyD] at h <;> exact r.elim
def z4e:List D→Option (List (DKey×D))
 | []=>some []
 | .tup [k,v] :: r=>match keyD k,z4e r with
  | some k',some r'=>some ((k',v) :: r')
  | _,_=>none
 | _ :: _=>none
def z2E:D→Option S
 | .lst ds=>(z4e ds).bind fun ps=>if ps.length≤sizeLine then some (.own (.dct (z8D ps []))) else none
 | .tup ds=>(z4e ds).bind fun ps=>if ps.length≤sizeLine then some (.own (.dct (z8D ps []))) else none
 | _=>none
theorem z76 {H:Hp} {O:Addr→Prop}:∀ {ds:List D} {vs:List V} {ps:List (DKey×D)},z4e ds=some ps→Reps H O vs ds→∃ kps,z7F H vs kps∧DR H O kps ps∧kps.length=ps.length
 | [],[],ps,h,_=>by
  simp [z4e] at h
  subst h
  exact ⟨[],⟨rfl,fun i y kv e=>by simp at e⟩,trivial,rfl⟩
 | [],_ :: _,_,_,r=>by have:=r.1; simp at this
 | _ :: _,[],_,_,r=>by have:=r.1; simp at this
 | d :: ds,v :: vs,ps,h,r=>by
  unfold z4e at h
  split at h
  ·rename_i heq; cases heq
  ·rename_i k w r' heq
   cases heq
   split at h
   ·rename_i k' r'' hk hr
    cases h
    obtain ⟨kps,hP,hD,hL⟩:=z76 hr r.tail
    have rp:=r.head
    cases rp with
    | tup h1 h2 h3 h4 =>
     rename_i a us
     match us,h3,h4,h2 with
     | [x,y],_,h4,h2 =>
      have rk:=h4 0 x k rfl rfl
      have rv:=h4 1 y w rfl rfl
      have ek:=zad hk rk
      subst ek
      refine ⟨(kOf k',y) :: kps,⟨by simp [hP.1],fun i z kv e1 e2=>?_⟩,⟨rfl,rv,hD⟩,by simp [hL]⟩
      cases i with
      | zero=>simp at e1 e2; subst e1 e2; exact ⟨a,rfl,h2⟩
      | succ i=>exact hP.2 i z kv (by simpa using e1) (by simpa using e2)
   ·cases h
  ·cases h
theorem RepS.newDk {c:Fc} {σ:St} {δ:Dl} {H:Hp} {p:Addr} {ws:List (Key×V)} {ds:List (DKey×D)} (k:Ok c σ δ H) (hp:H p=none) (r:DR H (Av c σ δ) ws ds):RepS c σ δ H (upd H p (.dK ws)) (.ref p) (.own (.dct ds)):=by
 have up:∀ a w,H a=some w→upd H p (.dK ws) a=some w:=fun a w e=>by rw [z0K (z14 e hp)]; exact e
 have r1:DR (upd H p (.dK ws)) (Av (c.plus p) σ δ) ws ds:=r.map fun v d h=>(h.anti fun b z=>by
  rcases z with (z | z) | z
  ·exact .inl (.inl z)
  ·exact .inr (by rw [z]; exact hp)
  ·exact .inl (.inr z)).keep fun b w e _=>up b w e
 exact ⟨p,rfl,⟨ws,z1m,r1.keys,r1.vals⟩,fun z=>k.nav hp (.inl z),k.fresh₀ hp,k.plus hp _,hp⟩
section
variable {X:Cx} {c:Fc} {e:Expr} {fb:BE} {pos pp:Pos}
theorem z9S:bootBuiltins "dict" = some (.type "dict"):=by decide +kernel
theorem z4D (hc:X.calm=true) (hg:Gl X "dict") (hm:X.mg "dict" = none) (he:SB X c e fb) (hs:z4m e=true:=by rfl):SE X c (.Call (.Name "dict" pp) [e] [] pos) (eC1 z2E fb) :=
 z4F (r:=fun v H Q=>∃ p ys kps,v = .ref p∧(H p=some (.tup ys)∨Rd H p (.lst ys))∧z7F H ys kps∧kps.length≤sizeLine∧∀ l,H l=none→Q (.ref l) (upd H l (.dK (z2P kps []))))
  (z6d hc) (fun v H Q ⟨p,ys,kps,e,h⟩=>⟨p,ys,kps,by rw [e],h⟩)
  (fun c σ δ H x d s Q k rx hp q=>by
   cases d with
   | lst ds =>
    simp only [z2E] at hp
    cases hps:z4e ds with
    | none=>rw [hps] at hp; cases hp
    | some ps =>
     rw [hps] at hp
     simp only [Option.bind_some] at hp
     split at hp
     ·rename_i hz
      cases hp
      obtain ⟨a,vs,ex,ha,r⟩:=rx.lst
      obtain ⟨kps,hP,hD,hL⟩:=z76 hps r
      exact ⟨a,vs,kps,ex,.inr ha,hP,by rw [hL]; exact hz,fun l hl=>q _ _ (.alloc k hl _) (RepS.newDk k hl (DR.puts hD (ws:=[]) (ds:=[]) trivial))⟩
     ·cases hp
   | tup ds =>
    simp only [z2E] at hp
    cases hps:z4e ds with
    | none=>rw [hps] at hp; cases hp
    | some ps =>
     rw [hps] at hp
     simp only [Option.bind_some] at hp
     split at hp
     ·rename_i hz
      cases hp
      obtain ⟨a,vs,ex,ha,r⟩:=rx.tup
      obtain ⟨kps,hP,hD,hL⟩:=z76 hps r
      exact ⟨a,vs,kps,ex,.inl ha,hP,by rw [hL]; exact hz,fun l hl=>q _ _ (.alloc k hl _) (RepS.newDk k hl (DR.puts hD (ws:=[]) (ds:=[]) trivial))⟩
     ·cases hp
   | _=>simp [z2E] at hp) hg hm z9S he (by decide) (by decide) (z51 hs)
end
theorem z96 {c:Fc} {σ:St} {δ:Dl} {H:Hp} {v:V} {ds:List (DKey×D)} (r:RepB c σ δ H v (.dct ds)):∃ a ws,v = .ref a∧H a=some (.dK ws)∧DR H (Av c σ δ) ws ds:=by
 obtain ⟨a,ws,e,h,k1,k2⟩:=r.dct
 exact ⟨a,ws,e,h,DR.of k1 k2⟩
def rInD (neg:Bool):R2:=fun x y H Q=>∃ a kvs k,y = .ref a∧H a=some (.dK kvs)∧x=kV k∧Q (.bl (if neg then !(valV kvs k).isSome else (valV kvs k).isSome)) H
theorem zes {X:Cx} (hu:X.A.units + 64 < cLine):OpR X (compareOp .In) (rInD false):=by
 intro pins s σ H x y v u Q I rx ry h
 obtain ⟨a,kvs,k,rfl,ha,rfl,q⟩:=h
 cases ry
 exact d_in (by omega) I (DGet.k ha) rx fun s' I'=>⟨.bl _,H,I',rfl,q⟩
theorem zaC {X:Cx} (hu:X.A.units + 64 < cLine):OpR X (compareOp .NotIn) (rInD true):=by
 intro pins s σ H x y v u Q I rx ry h
 obtain ⟨a,kvs,k,rfl,ha,rfl,q⟩:=h
 cases ry
 exact zdr (by omega) I (DGet.k ha) rx fun s' I'=>⟨.bl _,H,I',rfl,q⟩
def zan (K:PySem.W.Frag) (neg:Bool):R2:=fun x y H Q=>rInD neg x y H Q∨rIn K neg x y H Q∨∃ i j,x = .str i∧y = .str j∧Q (.bl (if neg then !(!(Builtin.Str.occurrences j i 0 j.length 1).isEmpty) else !(Builtin.Str.occurrences j i 0 j.length 1).isEmpty)) H
theorem z9b {X:Cx} (hu:X.A.units + 64 < cLine):OpR X (compareOp .In) (zan X.K false):=(zes hu).or (op_in_seq.or zaE)
theorem z8J {X:Cx} (hu:X.A.units + 64 < cLine):OpR X (compareOp .NotIn) (zan X.K true):=(zaC hu).or (op_notIn_seq.or z7Z)
def pIn (neg:Bool) (x y:D):Option S:=match y with
 | .dct ds=>(keyD x).map fun k=>.pure (.bl (if neg then !(valD ds k).isSome else (valD ds k).isSome))
 | .str y=>match x with
  | .str [n]=>some (.pure (.bl (if neg then !decide (n ∈ y) else decide (n ∈ y))))
  | _=>none
 | .lst ds=>match x,z29 ds with
  | .str z,some ts=>some (.pure (.bl (if neg then !ts.contains z else ts.contains z)))
  | _,_=>none
 | .tup ds=>match x,z29 ds with
  | .str z,some ts=>some (.pure (.bl (if neg then !ts.contains z else ts.contains z)))
  | _,_=>none
 | _=>none
theorem z8f (z:Tx) (ts:List Tx):inV (V.str (toS z)) (ts.map fun z=>V.str (toS z))=ts.contains z:=by
 unfold inV
 rw [List.any_map]
 induction ts with
 | nil=>rfl
 | cons t r ih =>
  rw [List.any_cons,List.contains_cons,ih]
  congr 1
  show (toS t == toS z)=(z == t)
  rw [z8x,Bool.beq_comm]
theorem z6N (ts:List Tx):(ts.map fun z=>V.str (toS z)).all z7t=true:=by
 rw [List.all_map]
 exact List.all_eq_true.mpr fun _ _=>rfl
theorem z7h {K:PySem.W.Frag} (neg:Bool):Op2 (zan K neg) (pIn neg):=by
 intro c σ δ H x y d e s Q k rx ry hp q
 cases e <;> first | (simp [pIn] at hp; done) | skip
 ·rename_i z
  simp only [pIn] at hp
  split at hp <;> first | (cases hp; done) | skip
  rename_i n
  cases hp
  refine .inr (.inr ⟨toS [n],toS z,rx.str,ry.str,?_⟩)
  rw [show toS [n] = ⟨#[n]⟩ from rfl,PySem.StrLaws.found_one,show (toS z).cps.toList=z by simp [toS]]
  exact q _ H (.refl k) (.bl _)
 ·rename_i ds
  simp only [pIn] at hp
  split at hp <;> first | (cases hp; done) | skip
  rename_i z ts ht
  cases hp
  obtain ⟨a,vs,ea,ha,r⟩:=ry.tup
  have ev:=z46 ht r
  refine .inr (.inl ⟨a,vs,ea,.inr (.of ha),by rw [rx.str]; rfl,by rw [ev]; exact z6N ts,?_⟩)
  rw [rx.str,ev,z8f]
  exact q _ H (.refl k) (.bl _)
 ·rename_i ds
  simp only [pIn] at hp
  split at hp <;> first | (cases hp; done) | skip
  rename_i z ts ht
  cases hp
  obtain ⟨a,vs,ea,ha,r⟩:=ry.lst
  have ev:=z46 ht r
  refine .inr (.inl ⟨a,vs,ea,.inl (.inl ha),by rw [rx.str]; rfl,by rw [ev]; exact z6N ts,?_⟩)
  rw [rx.str,ev,z8f]
  exact q _ H (.refl k) (.bl _)
 ·rename_i ds
  simp only [pIn] at hp
  cases hk:keyD d with
  | none=>rw [hk] at hp; cases hp
  | some kk =>
   rw [hk] at hp
   cases hp
   obtain ⟨a,ws,ea,ha,dr⟩:=z96 ry
   refine .inl ⟨a,ws,kOf kk,ea,ha,z95 hk rx,?_⟩
   have:(valV ws (kOf kk)).isSome=(valD ds kk).isSome:=by
    rcases dr.val kk with ⟨e1,e2⟩ | ⟨v,d,e1,e2,_⟩
    ·rw [e1,e2]; rfl
    ·rw [e1,e2]; rfl
   rw [this]
   exact q _ H (.refl k) (.bl _)
def rIxD:R2:=fun x y H Q=>∃ a kvs k v,x = .ref a∧H a=some (.dK kvs)∧y=kV k∧valV kvs k=some v∧Q v H
def pIxX:D→D→Option S
 | .dct ds,k=>(keyD k).bind fun k=>(valD ds k).map .pure
 | x,y=>pIx x y
theorem zdf {X:Cx} (hu:X.A.units + 64 < cLine):IxR X rIxD:=by
 intro value slice pins s σ H x y v u Q I rx ry h hs
 obtain ⟨a,kvs,k,w,rfl,ha,rfl,hv,q⟩:=h
 cases rx
 obtain ⟨_,_,vs,_,dd⟩:=zf0 I.hok ha
 have hT:s.TypeIs (.ref a) "dict":=dd.typeIs
 exact tail_any hT F.slot_dict_getitem.lookup (zb5 (v:=w) (by omega) I (by rw [← hv]; exact DGet.k ha) ry fun w' s' I' rw'=>⟨w,H,I',rw',q⟩) hs
theorem zce {K:PySem.W.Frag}:Op2 (fun x y H Q=>rIxD x y H Q∨rIx K x y H Q) pIxX:=by
 intro c σ δ H x y d e s Q k rx ry hp q
 cases d with
 | dct ds =>
  simp only [pIxX] at hp
  cases hk:keyD e with
  | none=>rw [hk] at hp; cases hp
  | some kk =>
   rw [hk] at hp
   simp only [Option.bind_some,Option.map_eq_some_iff] at hp
   obtain ⟨dv,hv,rfl⟩:=hp
   obtain ⟨a,ws,ea,ha,dr⟩:=z96 rx
   rcases dr.val kk with ⟨e1,e2⟩ | ⟨v,d',e1,e2,r⟩
   ·rw [e1] at hv; cases hv
   ·rw [e1] at hv; cases hv
    exact .inl ⟨a,ws,kOf kk,v,ea,ha,z95 hk ry,e2,q v H (.refl k) r⟩
 | _=>exact .inr (z0A c σ δ H x y _ e s Q k rx ry hp q)
end DV
set_option Elab.async false
set_option linter.all false
set_option maxRecDepth 100000
set_option maxHeartbeats 400000
namespace PySem
open Sem (wp)
open AutoSeq1 (wpAny_loadPart')
section
variable {prog:Program} {w:World} {A:Around} {E:Value→Shared→Prop} {s:Shared}
end
theorem IsTuple.at' {h h':Heap} {l:Addr} {items:Array Value} (x:h.IsTuple l items) (k:∀ o,h.get? l=some o→h'.get? l=some o):h'.IsTuple l items:=by
 obtain ⟨o,ho,r⟩:=x
 exact ⟨o,k o ho,r⟩
end PySem
set_option Elab.async false
set_option linter.all false
set_option maxRecDepth 100000
set_option maxHeartbeats 400000
namespace L2
open PySem PySem.Spec PyProof.Rows
section
variable {X:Cx} {pins:List (Addr×Obj)} {σ:St} {H:Hp} {s:Shared} {h':Heap}
end
end L2
set_option Elab.async false
set_option linter.all false
set_option maxRecDepth 100000
set_option maxHeartbeats 400000
namespace DV
open PySem PySem.Spec PyProof.Rows L2
section
variable {X:Cx} {c:Fc} {tg e:Expr} {fe:DE} {pos pp:Pos}
end
end DV
set_option Elab.async false
set_option linter.all false
set_option maxRecDepth 100000
set_option maxHeartbeats 400000
namespace HT
open PySem PySem.Spec PyProof.Rows
section
variable {prog:Program} {w:World} {A:Around} {E:Value→Shared→Prop} {s:Shared}
theorem z9T (n:Nat):Builtin.Slice.sliceAdjust none none (-1) (n:Int)=((n:Int) - 1,-1):=by
 unfold Builtin.Slice.sliceAdjust
 simp
theorem z9H (n:Nat):Builtin.Slice.slicePlaces ((n:Int) - 1) (-1) (-1)=n:=by
 unfold Builtin.Slice.slicePlaces
 simp
 try omega
theorem z5l {sl:Addr} {t:Tok} {n:Nat} {Q:Int×Int×Nat→Shared→Prop} (hs:s.heap.IsSliceOf sl .none .none (.int (-1) t))
  (h:Q ((n:Int) - 1,-1,n) s):wpAny (model prog w) A (Builtin.Slice.sliceApplied (.ref sl) (pure (n:Int))) Q E s:=by
 obtain ⟨os,hos,hcs,hds⟩:=id hs
 unfold Builtin.Slice.sliceApplied Builtin.Slice.sliceFields
 refine wpAny_bind (wpAny_bind (wpAny_field hos hds (x:=.none) rfl (wpAny_bind (wpAny_field hos hds (x:=.none) rfl (wpAny_bind (wpAny_field hos hds (x:=.int (-1) t) rfl (wpAny_pure ?_)))))))
 refine wpAny_bind (slicePart_int ?_)
 show wpAny _ _ (if ((-1:Int) == 0)=true then _ else _) _ _ s
 rw [if_neg (by decide)]
 refine wpAny_bind (slicePart_none (wpAny_bind (slicePart_none (wpAny_bind (wpAny_pure ?_)))))
 show wpAny _ _ (match Builtin.Slice.sliceAdjust none none (-1) (n:Int) with | (lo,hi)=>pure (lo,(-1:Int),Builtin.Slice.slicePlaces lo hi (-1))) _ _ s
 rw [z9T n]
 show wpAny _ _ (pure ((n:Int) - 1,(-1:Int),Builtin.Slice.slicePlaces ((n:Int) - 1) (-1) (-1))) _ _ s
 rw [z9H]
 exact wpAny_pure h
theorem z9l {α β:Type} {f g:α→Option β}:∀ {l:List α},(∀ x ∈ l,f x=g x)→l.filterMap f=l.filterMap g
 | [],_=>rfl
 | x :: l,h=>by
  rw [List.filterMap_cons,List.filterMap_cons,h x (by simp),z9l fun y hy=>h y (by simp [hy])]
theorem zbD (xs:Array Value):((List.range xs.size).filterMap fun (m:Nat)=>xs[(((xs.size:Int) - 1) + (m:Int) * -1).toNat]?).toArray=xs.toList.reverse.toArray:=by
 have e:((List.range xs.size).filterMap fun (m:Nat)=>xs[(((xs.size:Int) - 1) + (m:Int) * -1).toNat]?)=((List.range xs.size).map fun k=>xs.size - 1 - k).filterMap (xs[·]?):=by
  rw [List.filterMap_map]
  refine z9l fun m hm=>?_
  have:(((xs.size:Int) - 1) + (m:Int) * -1).toNat=xs.size - 1 - m:=by
   have:=List.mem_range.mp hm
   omega
  simp only [this,Function.comp]
 rw [e,PySem.W.krv_range,List.filterMap_reverse,PySem.W.krv_all]
theorem getItem_tuple_rev {t sl:Addr} {items:Array Value} {tk:Tok} {Q:Value→Shared→Prop} (ht:IsTup s.heap t items) (hs:s.heap.IsSliceOf sl .none .none (.int (-1) tk))
  (h:Q (.ref s.heap.objs.size) { s with heap:=s.heap.push { cls:=.type "tuple",data:=.seq items.toList.reverse.toArray } })
  (hsz:items.size≤sizeLine):wpAny (model prog w) A (getItem (.ref t) (.ref sl)) Q E s:=by
 have htake:sizeOk (.seq items.toList.reverse.toArray):=by
  show items.toList.reverse.toArray.size≤sizeLine
  simpa using hsz
 obtain ⟨os,hos,hcs,hds⟩:=id hs
 have hTs:s.TypeIs (.ref sl) "slice":=⟨os,hos,hcs⟩
 unfold getItem
 try with_reducible refine wpAny_holding ?_
 first | refine wpAny_bind (wpAny_pure ?_) | skip
 refine wpAny_bind (wpAny_sequenceKey ht.typeIs (by decide) ?_)
 refine wpAny_bind (wpAny_callSpecial?_slot (name:=Str.ofString "__getitem__") ht.typeIs PyProof.Rows.slot_tuple_getitem
  (wpAny_call_entry PyProof.Rows.slot_tuple_getitem ht.typeIs entry_tuple_getitem ?_ (args_tuple_getitem _ _)))
 show wpAny _ _ (Builtin.Tuple.tupleItemsOf (.ref t) >>= _) _ _ s
 refine wpAny_bind (tupleItemsOf_ ht ?_)
 refine wpAny_bind (wpAny_typeOf hTs ?_)
 rw [if_pos (by decide)]
 refine wpAny_bind (z5l hs ?_)
 have hno:¬ ((((items.size:Int) - 1) == 0 && (-1:Int) == 1 && items.size == items.size)=true):=by
  intro q
  rw [Bool.and_eq_true,Bool.and_eq_true] at q
  exact absurd q.1.2 (by decide)
 show wpAny _ _ (if (((items.size:Int) - 1) == 0 && (-1:Int) == 1 && items.size == items.size)=true then _ else _) _ _ s
 rw [if_neg hno,zbD]
 first
  | exact wpAny_bind (m:=Builtin.Tuple.tupleExact _) (wpAny_newObj_type (wpAny_pure ⟨_,rfl,wpAny_pure h⟩) htake)
  | exact wpAny_bind (m:=Builtin.Tuple.tupleExact _) (wpAny_newObj_type (wpAny_bind (wpAny_pure (wpAny_pure ⟨_,rfl,wpAny_pure h⟩))) htake)
  | exact wpAny_bind (wpAny_bind (m:=Builtin.Tuple.tupleExact _) (wpAny_newObj_type (wpAny_pure (wpAny_pure ⟨_,rfl,wpAny_pure h⟩)) htake))
  | exact wpAny_bind (wpAny_bind (m:=Builtin.Tuple.tupleExact _) (wpAny_newObj_type (wpAny_pure ⟨_,rfl,wpAny_pure h⟩) htake))
end
end HT
namespace DV
open PySem PySem.Spec PyProof.Rows L2
theorem rv_tup {X:Cx}:RvR X (fun x H Q=>∃ a xs,x = .ref a∧SqT X.K H a xs∧∀ p,H p=none→Q (.ref p) (upd H p (.tup xs.reverse))):=by
 intro pins s σ H x v t sl Q I rx hs h
 obtain ⟨a,xs,rfl,hx,q⟩:=h
 cases rx
 obtain ⟨its,r,ht,hz⟩:=I.tuple hx
 have hlen:=r.length
 refine ⟨"tuple",_,PyProof.Rows.slot_tuple_getitem.lookup,ht.typeIs,?_⟩
 refine HT.getItem_tuple_rev ht hs ?_ (by rw [List.size_toArray]; omega)
 refine ⟨.ref s.heap.objs.size,_,I.laid (t':=s.toks) (o:=.tup xs.reverse) (fun b ob q=>Heap.get?_push_of_some _ q) (Nat.le_refl _) ?_,rfl,q _ (I.hok.fresh (Nat.le_refl _))⟩
 exact ⟨by rw [List.length_reverse]; exact hz,_,r.reverse,IsTupN.new _ _⟩
open PySem PySem.Spec PyProof.Rows L2
section
variable {X:Cx} {c:Fc} {e:Expr} {fb:BE} {pos p2:Pos}
def z5S:D→Option S
 | .tup ds=>some (.pure (.tup ds.reverse))
 | d=>pRev d
def rRevX (K:PySem.W.Frag):V→Hp→VK→Prop:=fun x H Q=>(∃ a xs,x = .ref a∧SqT K H a xs∧∀ p,H p=none→Q (.ref p) (upd H p (.tup xs.reverse)))∨rRev K x H Q
theorem za7 {st:Expr} (he:SB X c e fb) (hst:PE X st (tC (.int (-1)))):SE X c (.Subscript e (.Slice none none (some st) p2) pos) (eC1 z5S fb) :=
 PE.weak (zei (r:=rRevX X.K) (rv_tup.or (rv_str.or zcK)) he hst) fun σ H Q h=>z5H (fun c σ δ H x d s Q k rx hp q=>by
  cases d with
  | tup ds =>
   simp only [z5S,Option.some.injEq] at hp
   subst hp
   obtain ⟨a,vs,ea,ha,ra⟩:=rx.tup
   exact .inl ⟨a,vs,ea,.of ha,fun p hp=>q _ _ (.alloc k hp _) (RepS.newT k ra.reverse hp)⟩
  | str z =>
   simp only [z5S,pRev] at hp
   split at hp
   ·rename_i hz
    simp only [Option.some.injEq] at hp
    subst hp
    exact .inr (.inl ⟨z,rx.str,hz,q _ H (.refl k) (.str _)⟩)
   ·cases hp
  | lst ds =>
   simp only [z5S,pRev,Option.some.injEq] at hp
   subst hp
   obtain ⟨a,vs,ea,ha,ra⟩:=rx.lst
   exact .inr (.inr ⟨a,vs,ea,.inl ha,fun p hp=>q _ _ (.alloc k hp _) (RepS.newL k ra.reverse hp)⟩)
  | _=>simp [z5S,pRev] at hp) h
def pNeg:D→Option S
 | .int i=>some (.pure (.int (-i)))
 | _=>none
theorem zc6 (he:SB X c e fb):SE X c (.UnaryOp .USub e pos) (eC1 pNeg fb) :=
 PE.weak (zeg zc4 he) fun σ H Q h=>z5H (fun c σ δ H x d s Q k rx hp q=>by
  cases d with
  | int i =>
   simp only [pNeg,Option.some.injEq] at hp
   subst hp
   exact ⟨i,rx.int,q _ H (.refl k) (.int _)⟩
  | _=>simp [pNeg] at hp) h
end
open PySem PySem.Spec PyProof.Rows L2
section
variable {c:Fc} {σ σ':St} {δ δ':Dl} {H H':Hp} {i:Nat} {a:Addr} {ds:List D}
end
section
variable {X:Cx} {c:Fc} {tg iter:Expr} {body:List Stmt} {g:DG} {b:DS} {i:Nat} {pos:Pos}
end
theorem ix_X {X:Cx} (hu:X.A.units + 64 < cLine):IxR X (fun x y H Q=>rIxD x y H Q∨rIx X.K x y H Q):=(zdf hu).or z0k
end DV
set_option Elab.async false
set_option linter.all false
set_option maxRecDepth 100000
set_option maxHeartbeats 400000
namespace L2
open PySem PySem.Spec PyProof.Rows
section
variable {X:Cx}
end
end L2
namespace DV
open PySem PySem.Spec PyProof.Rows L2
section
variable {X:Cx} {c:Fc} {e:Expr} {fe:DE} {pos:Pos}
end
section
variable {c:Fc} {σ:St} {δ δ':Dl} {H H':Hp} {i:Nat} {a p:Addr} {ds:List D}
end
open Classical in
noncomputable def itAt (δ₀:Dl) (ds:List D):DI:=fun δ=>if δ=δ₀ then .ok ds δ else .stuck
section
variable {X:Cx} {c:Fc} {cs:List Nat} {tg iter elt:Expr} {ifs:List Expr} {scope:Scope} {pos:Pos} {g:DG} {t:DT} {el:DE} {i:Nat}
end
open PySem PySem.Spec PyProof.Rows L2
section
variable {X:Cx} {c:Fc} {e:Expr} {fe:DE} {pos pos':Pos}
end
open PySem PySem.Spec PyProof.Rows L2
section
variable {X:Cx} {c:Fc} {pp pos:Pos}
def pMin:D→D→Option S
 | .int i,.int j=>some (.pure (.int (if j < i then j else i)))
 | _,_=>none
def eMin (f g:DE):DE:=fun δ=>(f δ).bind fun x δ1=>(g δ1).bind fun y δ2=>p2 pMin x.d y.d δ2
theorem z92 {a b:Expr} {f g:DE} (hc:X.calm=true) (hg:Gl X "min") (hm:X.mg "min" = none) (ha:SE X c a f) (hb:SE X c b g) (hs:starEach [a,b] X.env=(false,eval a X.env) :: starEach [b] X.env:=by rfl)
  (hs2:starEach [b] X.env=(false,eval b X.env) :: starEach [] X.env:=by rfl) (hpl:(backTo pos (starEach [b] X.env)).any (·.1)=false:=by rfl):SE X c (.Call (.Name "min" pp) [a,b] [] pos) (eMin f g) :=
 PE.weak (z5B (zbf hc) hg hm PyProof.Rows.boot_min (z2s ha (z2s hb z4f hs2) hs) (by decide) (by decide) hs hpl) fun σ H Q ⟨δ,k,q⟩=>by
  unfold eMin at q
  rw [z0b] at q
  refine ⟨δ,k,z07 q fun x δ1 q1 v H1 a1 r1=>⟨δ1,a1.ok,?_⟩⟩
  rw [z0b] at q1
  refine z07 q1 fun y δ2 q2 u H2 a2 r2=>?_
  unfold p2 at q2
  have hx:RepB c σ δ2 H2 v x.d:=.inl (Rep.aft r1.rep a2)
  have hy:=r2.b
  generalize x.d=dx at q2 hx
  generalize y.d=dy at q2 hy
  cases dx <;> first | exact q2.elim | skip
  cases dy <;> first | exact q2.elim | skip
  rename_i i j
  obtain ⟨i',e1⟩:∃ i',v = .int i':=hx.elim (fun h=>by cases h; exact ⟨_,rfl⟩) fun ⟨_,_,h⟩=>h.elim
  subst e1
  have e2:i'=i:=hx.elim (fun h=>by cases h; rfl) fun ⟨_,_,h⟩=>h.elim
  obtain ⟨j',e3⟩:∃ j',u = .int j':=hy.elim (fun h=>by cases h; exact ⟨_,rfl⟩) fun ⟨_,_,h⟩=>h.elim
  subst e3
  have e4:j'=j:=hy.elim (fun h=>by cases h; rfl) fun ⟨_,_,h⟩=>h.elim
  subst e2 e4
  exact ⟨i',j',rfl,q2 _ H2 (a1.trans a2) (.int _)⟩
end
section
variable {c:Fc} {σ:St} {δ:Dl} {H:Hp} {a:Addr} {d:D}
end
section
variable {X:Cx} {c:Fc} {e:Expr} {es:List Expr} {as:List Ak} {f0:DE} {k n:Nat} {x:Str} {G:DF} {pp pos:Pos}
end
open PySem PySem.Spec PyProof.Rows L2
section
variable {X:Cx} {c:Fc} {e:Expr} {fe:DE} {pos:Pos}
end
open PySem PySem.Spec PyProof.Rows L2
section
variable {X:Cx} {c:Fc} {o e f:Expr} {fe ff:DE} {i:Nat} {apos cpos:Pos}
end
open PySem PySem.Spec PyProof.Rows L2
def bigB:Int:=2 ^ 1000
def zf2 (_ j:Int):Prop:=0 < j∧j < bigB
theorem zc0 {j:Int} (h0:0 < j) (h1:j < bigB):j.natAbs.log2 < 9000:=by
 have e:j.natAbs < 2 ^ 1000:=by
  unfold bigB at h1
  have:((2 ^ 1000:Nat):Int)=(2:Int) ^ 1000:=by exact_mod_cast rfl
  omega
 have:=(Nat.log2_lt (by omega:j.natAbs≠0)).mpr e
 omega
section
variable {X:Cx}
theorem z5C:OpR X (binaryOp .FloorDiv) (rI zf2 fun i j=>.int (i / j)):=opI fun i j _ _ _ _ _ hc q=>by
 have h1:(0:Int) < j:=hc.1
 exact floordiv_int (by omega) (by rw [Int.fdiv_eq_ediv_of_nonneg i (by omega)]; exact q) (.inl (PyProof.noPylong_of_log2 (zc0 h1 hc.2)))
end
def zbk (_ j:Int):Bool:=decide (0 < j) && decide (j < bigB)
def z5T:=pII zbk fun i j=>.int (i / j)
theorem z7i:Op2 (rI zf2 fun i j=>V.int (i / j)) z5T:=zaH (fun i j h=>by
 unfold zbk at h
 simp only [Bool.and_eq_true,decide_eq_true_eq] at h
 exact h) fun _ _ _ _=>.int _
theorem zbH (i j:Int) (h0:0 < j) (h1:j < bigB):z5T (.int i) (.int j)=some (.pure (.int (i / j))):=by
 show (if zbk i j then some (S.pure (.int (i / j))) else none)=_
 have:zbk i j=true:=by unfold zbk; simp only [h0,h1,decide_true,Bool.and_self]
 rw [this]; rfl
end DV
namespace L2
open PySem PySem.Spec PyProof.Rows
section
variable {X:Cx} {tg:Expr}
end
end L2
namespace DV
open PySem PySem.Spec PyProof.Rows L2
variable {X:Cx} {c:Fc} {tg e:Expr} {fe:DE} {pp pos:Pos}
open PySem PySem.Spec PyProof.Rows L2
def rIsB (neg:Bool):R2:=fun x y H Q=>∃ c d:Bool,x = .bl c∧y = .bl d∧Q (.bl (if neg then c != d else c == d)) H
section
variable {X:Cx}
theorem zd6:OpR X (compareOp .IsNot) (rIsB true):=by
 intro pins s σ H x y v u Q I rx ry h
 obtain ⟨c,d,rfl,rfl,q⟩:=h
 cases rx
 cases ry
 exact isnot_bool (z9o I q rfl)
end
def pIsB (neg:Bool):D→D→Option S
 | .bl c,.bl d=>some (.pure (.bl (if neg then c != d else c == d)))
 | _,_=>none
theorem zex (neg:Bool):Op2 (rIsB neg) (pIsB neg):=by
 intro c σ δ H x y d e s Q k rx ry hp q
 cases d <;> cases e <;> first
  | (simp [pIsB] at hp; done)
  | skip
 rename_i i j
 simp only [pIsB,Option.some.injEq] at hp
 subst hp
 have ex:x = .bl i:=by
  rcases rx with r | ⟨a,e,o⟩
  ·cases r; rfl
  ·exact o.elim
 have ey:y = .bl j:=by
  rcases ry with r | ⟨a,e,o⟩
  ·cases r; rfl
  ·exact o.elim
 exact ⟨i,j,ex,ey,q _ H (.refl k) (.bl _)⟩
open PySem PySem.Spec PyProof.Rows L2
def mxL:List Int→Int
 | []=>0
 | a :: r=>match r with
  | []=>a
  | _=>if a≤mxL r then mxL r else a
def mnL:List Int→Int
 | []=>0
 | a :: r=>match r with
  | []=>a
  | _=>if mnL r≤a then mnL r else a
theorem zaK:∀ ns:List Int,ns≠[]→mxL ns ∈ ns∧∀ a ∈ ns,a≤mxL ns
 | [],h=>(h rfl).elim
 | [a],_=>by simp [mxL]
 | a :: b :: r,_=>by
  obtain ⟨h1,h2⟩:=zaK (b :: r) (by simp)
  have e:mxL (a :: b :: r)=if a≤mxL (b :: r) then mxL (b :: r) else a:=rfl
  rw [e]
  split
  ·exact ⟨List.mem_cons_of_mem _ h1,fun x hx=>by
    rcases List.mem_cons.mp hx with rfl | hx
    ·assumption
    ·exact h2 x hx⟩
  ·refine ⟨List.mem_cons_self,fun x hx=>?_⟩
   rcases List.mem_cons.mp hx with rfl | hx
   ·omega
   ·have:=h2 x hx; omega
theorem zaL:∀ ns:List Int,ns≠[]→mnL ns ∈ ns∧∀ a ∈ ns,mnL ns≤a
 | [],h=>(h rfl).elim
 | [a],_=>by simp [mnL]
 | a :: b :: r,_=>by
  obtain ⟨h1,h2⟩:=zaL (b :: r) (by simp)
  have e:mnL (a :: b :: r)=if mnL (b :: r)≤a then mnL (b :: r) else a:=rfl
  rw [e]
  split
  ·exact ⟨List.mem_cons_of_mem _ h1,fun x hx=>by
    rcases List.mem_cons.mp hx with rfl | hx
    ·assumption
    ·exact h2 x hx⟩
  ·refine ⟨List.mem_cons_self,fun x hx=>?_⟩
   rcases List.mem_cons.mp hx with rfl | hx
   ·omega
   ·have:=h2 x hx; omega
theorem vals_ints:∀ {ns:List Int} {us:List Value},Vals (ns.map V.int) us→∃ ys:List (Int×Tok),us=(ys.map fun p=>Value.int p.1 p.2)∧ns=ys.map (·.1)
 | [],us,r=>by cases r; exact ⟨[],rfl,rfl⟩
 | n :: ns,us,r=>by
  cases r with
  | cons r1 r2 =>
   obtain ⟨ys,e1,e2⟩:=vals_ints r2
   obtain ⟨t,rfl⟩:=r1
   exact ⟨(n,t) :: ys,by rw [e1]; rfl,by rw [e2]; rfl⟩
theorem zaI (ys:List (Int×Tok)) {i:Nat} (h:i < ys.length):numAt ys.toArray i ∈ ys.map (·.1):=by
 simp only [numAt,List.getElem?_toArray,List.getElem?_eq_getElem h,Option.map_some,Option.getD_some]
 exact List.mem_map_of_mem (List.getElem_mem h)
theorem zcf (ys:List (Int×Tok)) {a:Int} (h:a ∈ ys.map (·.1)):∃ i,i < ys.length∧a=numAt ys.toArray i:=by
 obtain ⟨p,hp,rfl⟩:=List.mem_map.mp h
 obtain ⟨i,hi,rfl⟩:=List.getElem_of_mem hp
 exact ⟨i,hi,by simp [numAt,hi]⟩
section
variable {X:Cx}
theorem zbg (hc:X.calm=true):CallR X (.builtin "max") (fun xs H Q=>∃ (a:Addr) (ns:List Int),xs=[.ref a]∧SqL X.K H a (ns.map V.int)∧ns≠[]∧Q (.int (mxL ns)) H):=by
 intro pins s σ H xs us Q I r h
 obtain ⟨a,ns,rfl,hq,hne,q⟩:=h
 obtain ⟨u,rfl,ru⟩:=z5k r
 cases ru
 obtain ⟨its,r',p,_⟩:=I.list hq
 obtain ⟨ys,rfl,rfl⟩:=vals_ints r'
 have hl:=p.isList
 have el:(ys.map fun p=>Value.int p.1 p.2).toArray=intItems ys.toArray:=by simp [intItems]
 rw [el] at hl
 have hy:0 < ys.length:=by cases ys with | nil=>exact (hne rfl).elim | cons _ _=>simp
 refine max_intList (I.ok.hd hc) hl (by simpa using hy) fun v h' tk hv hk=>?_
 obtain ⟨t,rfl⟩:=intItems_at hv
 obtain ⟨h1,h2⟩:=argBest_gt (numAt ys.toArray) (ys.toArray.size - 1)
 have hs:ys.toArray.size=ys.length:=by simp
 have hm:=zaI ys (i:=argBest (fun i j=>decide (numAt ys.toArray i > numAt ys.toArray j)) (ys.toArray.size - 1)) (by omega)
 obtain ⟨m1,m2⟩:=zaK (ys.map (·.1)) hne
 obtain ⟨i,hi,ei⟩:=zcf ys m1
 have l1:=m2 _ hm
 have l2:=h2 i (by omega)
 have e:numAt ys.toArray (argBest (fun i j=>decide (numAt ys.toArray i > numAt ys.toArray j)) (ys.toArray.size - 1))=mxL (ys.map (·.1)):=by
  rw [← ei] at l2
  exact Int.le_antisymm l1 l2
 refine ⟨.int (mxL (ys.map (·.1))),H,I.kept hk,⟨t,by rw [e]⟩,q⟩
theorem zbe (hc:X.calm=true):CallR X (.builtin "min") (fun xs H Q=>∃ (a:Addr) (ns:List Int),xs=[.ref a]∧SqL X.K H a (ns.map V.int)∧ns≠[]∧Q (.int (mnL ns)) H):=by
 intro pins s σ H xs us Q I r h
 obtain ⟨a,ns,rfl,hq,hne,q⟩:=h
 obtain ⟨u,rfl,ru⟩:=z5k r
 cases ru
 obtain ⟨its,r',p,_⟩:=I.list hq
 obtain ⟨ys,rfl,rfl⟩:=vals_ints r'
 have hl:=p.isList
 have el:(ys.map fun p=>Value.int p.1 p.2).toArray=intItems ys.toArray:=by simp [intItems]
 rw [el] at hl
 have hy:0 < ys.length:=by cases ys with | nil=>exact (hne rfl).elim | cons _ _=>simp
 refine min_intList (I.ok.hd hc) hl (by simpa using hy) fun v h' tk hv hk=>?_
 obtain ⟨t,rfl⟩:=intItems_at hv
 obtain ⟨h1,h2⟩:=argBest_lt (numAt ys.toArray) (ys.toArray.size - 1)
 have hs:ys.toArray.size=ys.length:=by simp
 have hm:=zaI ys (i:=argBest (fun i j=>decide (numAt ys.toArray i < numAt ys.toArray j)) (ys.toArray.size - 1)) (by omega)
 obtain ⟨m1,m2⟩:=zaL (ys.map (·.1)) hne
 obtain ⟨i,hi,ei⟩:=zcf ys m1
 have l1:=m2 _ hm
 have l2:=h2 i (by omega)
 have e:numAt ys.toArray (argBest (fun i j=>decide (numAt ys.toArray i < numAt ys.toArray j)) (ys.toArray.size - 1))=mnL (ys.map (·.1)):=by
  rw [← ei] at l2
  exact Int.le_antisymm l2 l1
 refine ⟨.int (mnL (ys.map (·.1))),H,I.kept hk,⟨t,by rw [e]⟩,q⟩
end
def z5w:List D→Option (List Int)
 | []=>some []
 | .int i :: r=>(z5w r).map (i :: ·)
 | _ :: _=>none
theorem z5Q {H:Hp} {O:Addr→Prop}:∀ {ds:List D} {vs:List V} {ns:List Int},z5w ds=some ns→Reps H O vs ds→vs=ns.map V.int
 | [],vs,bs,h,r=>by
  simp only [z5w,Option.some.injEq] at h
  subst h
  have:=r.1
  simpa using this
 | d :: ds,[],bs,h,r=>by have:=r.1; simp at this
 | d :: ds,v :: vs,bs,h,r=>by
  cases d with
  | int b =>
   simp only [z5w] at h
   cases e:z5w ds with
   | none=>rw [e] at h; cases h
   | some bs' =>
    rw [e] at h
    simp only [Option.map_some,Option.some.injEq] at h
    subst h
    have:=r.head
    cases this
    rw [z5Q e r.tail]
    rfl
  | _=>simp [z5w] at h
theorem ints_map (ns:List Int):z5w (ns.map D.int)=some ns:=by
 induction ns with
 | nil=>rfl
 | cons n r ih=>simp [z5w,ih]
def z8G:D→Option S
 | .lst ds=>match z5w ds with
  | some (n :: ns)=>some (.pure (.int (mxL (n :: ns))))
  | _=>none
 | _=>none
def z8F:D→Option S
 | .lst ds=>match z5w ds with
  | some (n :: ns)=>some (.pure (.int (mnL (n :: ns))))
  | _=>none
 | _=>none
section
variable {X:Cx} {c:Fc} {e:Expr} {fb:BE} {pos pp:Pos}
theorem zcH (hc:X.calm=true) (hg:Gl X "max") (hm:X.mg "max" = none) (he:SB X c e fb) (hs:starEach [e] X.env=(false,eval e X.env) :: starEach [] X.env:=by rfl):SE X c (.Call (.Name "max" pp) [e] [] pos) (eC1 z8G fb) :=
 z5A (r:=fun v H Q=>∃ (a:Addr) (ns:List Int),v = .ref a∧SqL X.K H a (ns.map V.int)∧ns≠[]∧Q (.int (mxL ns)) H) (zbg hc) (fun v H Q ⟨a,bs,e,h⟩=>⟨a,bs,by rw [e],h⟩) (fun c σ δ H x d s Q k rx hp q=>by
  cases d with
  | lst ds =>
   simp only [z8G] at hp
   cases e:z5w ds with
   | none=>rw [e] at hp; cases hp
   | some bs =>
    rw [e] at hp
    cases bs with
    | nil=>cases hp
    | cons n ns =>
     simp only [Option.some.injEq] at hp
     subst hp
     obtain ⟨a,vs,ea,ha,ra⟩:=rx.lst
     have:=z5Q e ra
     subst this
     exact ⟨a,n :: ns,ea,.inl ha,by simp,q _ H (.refl k) (.int _)⟩
  | _=>simp [z8G] at hp) hg hm PyProof.Rows.boot_max he (by decide) (by decide) hs
theorem zcG (hc:X.calm=true) (hg:Gl X "min") (hm:X.mg "min" = none) (he:SB X c e fb) (hs:starEach [e] X.env=(false,eval e X.env) :: starEach [] X.env:=by rfl):SE X c (.Call (.Name "min" pp) [e] [] pos) (eC1 z8F fb) :=
 z5A (r:=fun v H Q=>∃ (a:Addr) (ns:List Int),v = .ref a∧SqL X.K H a (ns.map V.int)∧ns≠[]∧Q (.int (mnL ns)) H) (zbe hc) (fun v H Q ⟨a,bs,e,h⟩=>⟨a,bs,by rw [e],h⟩) (fun c σ δ H x d s Q k rx hp q=>by
  cases d with
  | lst ds =>
   simp only [z8F] at hp
   cases e:z5w ds with
   | none=>rw [e] at hp; cases hp
   | some bs =>
    rw [e] at hp
    cases bs with
    | nil=>cases hp
    | cons n ns =>
     simp only [Option.some.injEq] at hp
     subst hp
     obtain ⟨a,vs,ea,ha,ra⟩:=rx.lst
     have:=z5Q e ra
     subst this
     exact ⟨a,n :: ns,ea,.inl ha,by simp,q _ H (.refl k) (.int _)⟩
  | _=>simp [z8F] at hp) hg hm PyProof.Rows.boot_min he (by decide) (by decide) hs
end
end DV
set_option Elab.async false
set_option linter.all false
namespace L2
open PySem PySem.Spec PyProof.Rows
section
variable {prog:Program} {w:World} {A:Around} {E:Value→Shared→Prop} {s:Shared}
end
section
variable {X:Cx} {pos:Pos}
end
end L2
namespace DV
open PySem PySem.Spec PyProof.Rows L2
section
variable {X:Cx} {c:Fc} {pos:Pos}
end
open PySem (sizeLine)
open L2
open PySem (sizeLine)
section
variable {α β:Type}
@[simp] theorem z1Y (a:α) (δ:Dl) (f:α→Dl→Rs β):(Rs.ok a δ).bind f=f a δ:=id rfl
@[simp] theorem zbT (f:α→Dl→Rs β):(Rs.stuck:Rs α).bind f = .stuck:=id rfl
@[simp] theorem zeW (d:D):(S.pure d).d=d:=id rfl
@[simp] theorem ev_d2 (d:D):(S.own d).d=d:=id rfl
end
section
variable (δ:Dl) (i:Nat) (d e:D) (f g:DE) (fb:BE) (t u:DT) (p:D→D→Option S)
@[simp] theorem ev_eD:eD d δ = .ok (.pure d) δ:=id rfl
@[simp] theorem zcj:bOf f δ=(f δ).bind fun r δ'=>.ok r.d δ':=id rfl
@[simp] theorem zeU:eOp p f fb δ=(f δ).bind fun x δ1=>(fb δ1).bind fun y δ2=>p2 p x.d y δ2:=id rfl
@[simp] theorem ev_dAnd:dAnd t u δ=(t δ).bind fun b δ1=>if b then u δ1 else .ok false δ1:=id rfl
@[simp] theorem ev_dOr:dOr t u δ=(t δ).bind fun b δ1=>if b then .ok true δ1 else u δ1:=id rfl
@[simp] theorem ev_dNot:dNot t δ=(t δ).bind fun b δ1=>.ok (!b) δ1:=id rfl
@[simp] theorem ev_eIf:eIf t f g δ=(t δ).bind fun b δ1=>if b then f δ1 else g δ1:=id rfl
@[simp] theorem ev_dNext:z0N δ = .ok .next δ:=id rfl
@[simp] theorem ev_dYes:dYes δ = .ok true δ:=id rfl
@[simp] theorem ev_dDrop:z6s f δ=(f δ).bind fun _ δ1=>.ok .next δ1:=id rfl
@[simp] theorem ev_dRet:dRet f δ=(f δ).bind fun r δ1=>.ok (.ret r) δ1:=id rfl
@[simp] theorem ev_dIf (a b:DS):dIf t a b δ=(t δ).bind fun x δ1=>if x then a δ1 else b δ1:=id rfl
@[simp] theorem zb0 (it:DI) (gg:DG) (b:DS):dFor it gg b δ=(it δ).bind fun ds δ1=>forL gg b ds δ1:=id rfl
@[simp] theorem ev_eTup (a:DA):eTup a δ=(a δ).bind fun ds δ'=>.ok (.pure (.tup ds)) δ':=id rfl
@[simp] theorem ev_eLst (a:DA):eLst a δ=(a δ).bind fun ds δ'=>.ok (.own (.lst ds)) δ':=id rfl
@[simp] theorem ev_eLstC (ds:List D):zdn ds δ = .ok (.own (.lst ds)) δ:=id rfl
@[simp] theorem ev_aNil:aNil δ = .ok [] δ:=id rfl
@[simp] theorem ev_aCons (a:DA):z09 f a δ=(f δ).bind fun x δ1=>(a δ1).bind fun xs δ2=>.ok (x.d :: xs) δ2:=id rfl
@[simp] theorem zeV (q:D→Option S):eC1 q fb δ=(fb δ).bind fun x δ1=>p1 q x δ1:=id rfl
@[simp] theorem ev_eMax:eMax f g δ=(f δ).bind fun x δ1=>(g δ1).bind fun y δ2=>p2 pMax x.d y.d δ2:=id rfl
@[simp] theorem ev_eSl (fl fh:DOp):eSl f fl fh δ=(f δ).bind fun x δ1=>(fl δ1).bind fun l δ2=>(fh δ2).bind fun h δ3=>p1 (pSl l h) x.d δ3:=id rfl
@[simp] theorem ev_oNone:z38 δ = .ok none δ:=id rfl
@[simp] theorem ev_eComp (cs:List Nat) (it:DI) (gg:DG) (el:DE):z28 cs it gg t el δ=(it δ).bind fun ds δ1=>if cs.any (z0x δ1) then .stuck else
 (z2F cs gg t el ds (clrD cs δ1) []).bind fun acc δ2=>.ok (.own (.lst acc)) (z20 cs δ1 δ2):=id rfl
@[simp] theorem ev_gNm (np:List Nat) (r:S):gNm np i r δ=if np.contains i then none else some (δ.set i (some r)):=id rfl
@[simp] theorem zdk (gg:DG) (b:DS):forL gg b [] δ = .ok .next δ:=id rfl
end
section
variable (δ:Dl) (i:Nat) (d e:D) (f g:DE) (fb:BE) (p:D→D→Option S) (s:S)
@[simp] theorem zeT (x y:D):p2 p x y δ=match p x y with | some s=>.ok s δ | none=>.stuck:=id rfl
@[simp] theorem ev_p1 (q:D→Option S) (x:D):p1 q x δ=match q x with | some s=>.ok s δ | none=>.stuck:=id rfl
@[simp] theorem zdl (a b:DS):dSeq a b δ=(a δ).bind fun fl δ1=>match fl with | .next=>b δ1 | .ret r=>.ok (.ret r) δ1 | .brk=>.ok .brk δ1 | .cont=>.ok .cont δ1:=id rfl
@[simp] theorem zdy {α β:Type} (c:Prop) [Decidable c] (x y:Rs α) (k:α→Dl→Rs β):(if c then x else y).bind k=if c then x.bind k else y.bind k:=by split <;> rfl
end
theorem z1L:sizeLine=16777216:=rfl
theorem z2N {α:Type} (xs:List α) (i:Nat):atI xs (i:Int)=xs[i]?:=by
 unfold atI ixN
 by_cases h:i < xs.length
 ·rw [if_pos (by omega),if_pos (by omega)]
  simp
 ·rw [if_pos (by omega),if_neg (by omega)]
  simp [List.getElem?_eq_none (Nat.le_of_not_lt h)]
theorem z7C {α:Type} (xs:List α):atI xs 2=xs[2]?:=z2N xs 2
theorem z2f {α:Type} (xs:List α):atI xs 0=xs[0]?:=z2N xs 0
theorem z7D {α:Type} (xs:List α):atI xs 1=xs[1]?:=z2N xs 1
theorem z4Y {cs:List Nat} {g:DG} {t:DT} {el:DE} (I:Dl→Prop) (R:D→D→Prop) :
  ∀ (ds:List D) (δ:Dl) (acc:List D),I δ→acc.length + ds.length≤sizeLine →
   (∀ d ∈ ds,∀ δ,I δ→∃ δ1 δ2 x δ3,g (.pure d) δ=some δ1∧t δ1 = .ok true δ2∧el δ2 = .ok x δ3∧I (clrD cs δ3)∧R d x.d) →
   ∃ xs δ',z2F cs g t el ds δ acc = .ok (acc ++ xs) δ'∧I δ'∧xs.length=ds.length∧∀ (i:Nat) d x,ds[i]? = some d→xs[i]? = some x→R d x
 | [],δ,acc,h,_,_=>⟨[],δ,by simp [z2F],h,rfl,fun i d x e=>by simp at e⟩
 | d :: r,δ,acc,h,hl,hs=>by
  obtain ⟨δ1,δ2,x,δ3,e1,e2,e3,h3,hr⟩:=hs d List.mem_cons_self δ h
  have hl':acc.length < sizeLine:=by simp at hl; omega
  obtain ⟨xs,δ',e4,h4,hn,hf⟩:=z4Y (g:=g) (t:=t) (el:=el) I R r (clrD cs δ3) (acc ++ [x.d]) h3 (by simp at hl ⊢; omega) (fun d hd=>hs d (List.mem_cons_of_mem _ hd))
  refine ⟨x.d :: xs,δ',?_,h4,by simp [hn],fun i d' x' f1 f2=>?_⟩
  ·unfold z2F
   rw [e1]
   simp only [e2,z1Y,if_true,e3,if_pos hl',e4]
   simp
  ·cases i with
   | zero=>simp at f1 f2; subst f1 f2; exact hr
   | succ i=>exact hf i d' x' (by simpa using f1) (by simpa using f2)
theorem zb9 {cs:List Nat} {g:DG} {t:DT} {el:DE} (F:D→D) (δ:Dl) :
  ∀ (ds:List D) (acc:List D),acc.length + ds.length≤sizeLine →
   (∀ d ∈ ds,∃ δ1 δ2 x δ3,g (.pure d) δ=some δ1∧t δ1 = .ok true δ2∧el δ2 = .ok x δ3∧clrD cs δ3=δ∧x.d=F d) →
   z2F cs g t el ds δ acc = .ok (acc ++ ds.map F) δ:=by
 intro ds acc hl hs
 obtain ⟨xs,δ',e,h,hn,hf⟩:=z4Y (cs:=cs) (g:=g) (t:=t) (el:=el) (fun δ'=>δ'=δ) (fun d x=>x=F d) ds δ acc rfl hl (fun d hd δ' h=>by
  subst h
  obtain ⟨δ1,δ2,x,δ3,a,b,c,d,e⟩:=hs d hd
  exact ⟨δ1,δ2,x,δ3,a,b,c,d,e⟩)
 subst h
 rw [e]
 congr 2
 apply List.ext_getElem?
 intro i
 by_cases hi:i < ds.length
 ·have:=hf i ds[i] (xs[i]'(by omega)) (by simp [hi]) (by simp [hn,hi])
  simp [hn,hi,this]
 ·rw [List.getElem?_eq_none (by omega),List.getElem?_eq_none (by simp; omega)]
theorem z2d {g:DG} {b:DS} (I:Nat→Dl→Prop) :
  ∀ (ds:List D) (n:Nat) (δ:Dl),I n δ →
   (∀ (i:Nat) d δ,ds[i]? = some d→I (n + i) δ→∃ δ1 δ2,g (.pure d) δ=some δ1∧b δ1 = .ok .next δ2∧I (n + i + 1) δ2) →
   ∃ δ',forL g b ds δ = .ok .next δ'∧I (n + ds.length) δ'
 | [],n,δ,h,_=>⟨δ,rfl,h⟩
 | d :: r,n,δ,h,hs=>by
  obtain ⟨δ1,δ2,e1,e2,h2⟩:=hs 0 d δ rfl h
  obtain ⟨δ',e3,h3⟩:=z2d (g:=g) (b:=b) I r (n + 1) δ2 h2 (fun i d' δ' e hi=>by
   have:=hs (i + 1) d' δ' (by simpa using e) (by rw [show n + (i + 1)=n + 1 + i by omega]; exact hi)
   rw [show n + (i + 1) + 1=n + 1 + i + 1 by omega] at this
   exact this)
  refine ⟨δ',?_,by rw [List.length_cons,show n + (r.length + 1)=n + 1 + r.length by omega]; exact h3⟩
  unfold forL
  rw [e1]
  simp only [e2,z1Y,e3]
open PySem (sizeLine)
open L2
open PySem (sizeLine)
theorem z31 (xs:List Tx):z29 (xs.map .str)=some xs:=by
 induction xs with
 | nil=>rfl
 | cons x r ih=>simp [z29,ih]
theorem z3o:∀ ts:List Tx,z65 [] ts=ts.flatten
 | []=>rfl
 | [x]=>by simp [z65]
 | x :: y :: r=>by rw [z65,z3o (y :: r)]; simp
theorem z9O (xs:List Nat):z3n (xs.map fun n=>[n])=xs.length:=by
 unfold z3n
 induction xs with
 | nil=>rfl
 | cons x r ih=>simp at ih ⊢; omega
theorem zbS (xs:List Nat):(xs.map fun n=>[n]).flatten=xs:=by
 induction xs with
 | nil=>rfl
 | cons x r ih=>simp [ih]
theorem z9p (xs:List Nat) (h:xs.length≤16777216):z2t [] (.lst (xs.map fun n=>.str [n]))=some (.pure (.str xs)):=by
 have e:(xs.map fun n=>D.str [n])=(xs.map fun n=>[n]).map D.str:=by simp
 unfold z2t
 simp only [e,z31,z9O,z3o,zbS]
 rw [if_pos (by simpa using h)]
theorem z7u (bs:List Bool):z6u (bs.map .bl)=some bs:=by
 induction bs with
 | nil=>rfl
 | cons x r ih=>simp [z6u,ih]
theorem z69 (r:Tx) (c:Nat) (h:c < r.length) (hl:r.length≤64):pIx (.str r) (.int c)=some (.pure (.str [r.getD c 0])):=by
 unfold pIx
 have:sizeLine=16777216:=rfl
 simp only
 rw [if_pos (by omega),z2N]
 simp [h]
theorem z9P (r:Tx) (hl:r.length≤64):pLen (.str r)=some (.pure (.int r.length)):=by
 unfold pLen
 have:sizeLine=16777216:=rfl
 simp only
 rw [if_pos (by omega)]
abbrev flD (fl:List Tx):D:=.tup (fl.map .str)
structure Rect (w:Nat) (fl:List Tx):Prop where
 h0:0 < fl.length
 h1:fl.length≤64
 w0:0 < w
 w1:w≤64
 all:∀ r ∈ fl,r.length=w
def turn (w:Nat) (fl:List Tx):List Tx:=(List.range w).map fun c=>fl.map fun r=>r.getD c 0
def back (fl:List Tx):List Tx:=fl.map List.reverse
theorem z3W (n:Nat) (fl:List Tx):flat (n + 1) (flD fl)=true:=by
 unfold flat
 induction fl with
 | nil=>rfl
 | cons x r ih=>simp [z4r,flat] at ih ⊢; exact ih
open PySem (sizeLine)
open L2
open PySem (sizeLine)
def rng (r:S) (δ1:Dl):Rs (List D):=match r with
 | .pure (.int j)=>if z6B j then .ok (z1g 0 j.toNat) δ1 else .stuck
 | _=>.stuck
@[simp] theorem z8j (f:DE) (δ:Dl):z0S f δ=(f δ).bind fun r δ1=>rng r δ1:=id rfl
theorem za2 (w:Nat) (hw:w≤1000000):z6B (w:Int)=true:=by
 have h1 : -(4611686018427387904:Int)≤(w:Int):=by omega
 have h2:(w:Int) < 4611686018427387904:=by omega
 unfold z6B
 rw [Bool.and_eq_true]
 exact ⟨decide_eq_true h1,decide_eq_true h2⟩
theorem zdL (j:Int) (hs:z6B j=true) (δ:Dl):rng (.pure (.int j)) δ = .ok (z1g 0 j.toNat) δ:=by unfold rng; simp only [hs,if_true]
theorem z4d (w:Nat) (hw:w≤1000000) (δ:Dl):rng (.pure (.int w)) δ = .ok (z1g 0 w) δ:=by
 have:=zdL (w:Int) (za2 w hw) δ
 rwa [Int.toNat_natCast] at this
open PySem (sizeLine)
theorem z1H {n i:Nat} {d:D} (h:(z1g 0 n)[i]? = some d):i < n∧d = .int (i:Int):=by
 unfold z1g at h
 rw [List.getElem?_map] at h
 by_cases hi:i < n
 ·rw [List.getElem?_range hi] at h
  simp at h
  exact ⟨hi,h.symm⟩
 ·rw [List.getElem?_eq_none (by simpa using hi)] at h
  cases h
theorem z5i {n:Nat} {d:D} (h:d ∈ z1g 0 n):∃ i:Nat,i < n∧d = .int (i:Int):=by
 obtain ⟨i,hi⟩:=List.getElem?_of_mem h
 exact ⟨i,z1H hi⟩
@[simp] theorem z2R (lo:Int) (n:Nat):(z1g lo n).length=n:=by simp [z1g]
open PySem (sizeLine)
open L2
open PySem (sizeLine)
theorem lt1 (a b:Nat):(([a]:Tx) < [b]) ↔ a < b:=by
 constructor
 ·intro h
  cases h with
  | cons h=>cases h
  | rel h=>exact h
 ·intro h; exact List.Lex.rel h
theorem z8z {P:Nat→Prop}:∀ {xs:List D},(∀ x ∈ xs,∃ n,P n∧x = .str [n])→∃ row:List Nat,xs=row.map (fun n=>.str [n])∧∀ n ∈ row,P n
 | [],_=>⟨[],rfl,by simp⟩
 | x :: r,h=>by
  obtain ⟨n,hn,rfl⟩:=h x List.mem_cons_self
  obtain ⟨row,rfl,hr⟩:=z8z (xs:=r) fun y hy=>h y (List.mem_cons_of_mem _ hy)
  exact ⟨n :: row,rfl,by simpa using ⟨hn,hr⟩⟩
theorem zae {R:D→D→Prop} {ds xs:List D} {Q:D→Prop} (hn:xs.length=ds.length) (hf:∀ (i:Nat) d x,ds[i]? = some d→xs[i]? = some x→R d x) (hq:∀ d x,d ∈ ds→R d x→Q x):∀ x ∈ xs,Q x:=fun x hx=>by
 obtain ⟨i,hi⟩:=List.getElem?_of_mem hx
 have h1:=(List.getElem?_eq_some_iff.mp hi).1
 have h2:ds[i]? = some (ds[i]'(by omega)):=by simp [show i < ds.length by omega]
 exact hq _ x (List.getElem_mem _) (hf i _ x h2 hi)
open PySem (sizeLine)
open L2
open PySem (sizeLine)
abbrev blD (b:Nat×List Tx):D:=.tup [.str [b.1],flD b.2]
abbrev ruD (h w:Nat) (bs:List (Nat×List Tx)):D:=.tup [.int h,.int w,.tup (bs.map blD)]
structure Rul (h w:Nat) (bs:List (Nat×List Tx)):Prop where
 h0:0 < h
 h1:h≤4
 w0:0 < w
 w1:w≤4
 hw:2 < h + w
 n0:0 < bs.length
 n1:bs.length≤26
 up:(bs.map (·.1)).Pairwise (· < ·)
 let':∀ b ∈ bs,97≤b.1∧b.1≤122
 blk:∀ b ∈ bs,b.2.length=h∧∀ r ∈ b.2,r.length=w∧∀ n ∈ r,n ∈ bs.map (·.1)
open PySem (sizeLine)
theorem z1D {A:Type} {cs:List Nat} {g:DG} {t:DT} {el:DE} (f F:A→D) (δ:Dl):∀ (as:List A) (acc:List D),acc.length + as.length≤sizeLine →
  (∀ a ∈ as,∃ δ1 δ2 x δ3,g (.pure (f a)) δ=some δ1∧t δ1 = .ok true δ2∧el δ2 = .ok x δ3∧clrD cs δ3=δ∧x.d=F a)→z2F cs g t el (as.map f) δ acc = .ok (acc ++ as.map F) δ
 | [],acc,_,_=>by simp [z2F]
 | a :: r,acc,hl,hs=>by
  obtain ⟨δ1,δ2,x,δ3,e1,e2,e3,e4,e5⟩:=hs a List.mem_cons_self
  have hl':acc.length < sizeLine:=by simp at hl; omega
  have ih:=z1D (cs:=cs) (g:=g) (t:=t) (el:=el) f F δ r (acc ++ [x.d]) (by simp at hl ⊢; omega) (fun a ha=>hs a (List.mem_cons_of_mem _ ha))
  rw [List.map_cons]
  unfold z2F
  rw [e1]
  rw [e5] at ih
  simp only [e2,z1Y,if_true,e3,if_pos hl',e4,e5,ih]
  simp
end DV
set_option Elab.async false
set_option linter.all false
set_option maxRecDepth 100000
set_option maxHeartbeats 400000
namespace K42
open PySem PySem.Spec PyProof.Rows L2 DV
def top (i:Nat):Stmt:=PySem.Challenge.pw_tilegrow_k42_ways_by_anybody.main.body.getD i (.Pass ⟨0,0,0,0⟩)
abbrev z1X:Stmt:=top 31
abbrev z25:Stmt:=top 33
abbrev z2C:Stmt:=top 32
abbrev z2D:Stmt:=top 34
abbrev z1W:Stmt:=top 36
abbrev z1A:Stmt:=top 38
abbrev z1C:Stmt:=top 37
abbrev z33:Stmt:=top 41
abbrev z2o:Stmt:=top 45
abbrev z2y:Stmt:=top 23
abbrev z1V:Stmt:=top 8
abbrev z2l:Stmt:=top 11
abbrev z2i:Stmt:=top 6
abbrev z1T:Stmt:=top 7
abbrev z1z:Stmt:=top 19
abbrev z2A:Stmt:=top 12
abbrev z2j:Stmt:=top 17
abbrev z24:Stmt:=top 15
abbrev z1y:Stmt:=top 21
abbrev z2z:Stmt:=top 22
abbrev z1k:Stmt:=top 14
abbrev z1d:Stmt:=top 26
abbrev z2k:Stmt:=top 16
abbrev z1U:Stmt:=top 27
abbrev z32:Stmt:=top 29
abbrev z3y:Stmt:=top 28
abbrev z2m:Stmt:=top 35
abbrev z1f:Stmt:=top 42
abbrev z2B:Stmt:=top 39
abbrev z1B:Stmt:=top 43
abbrev z27:Stmt:=top 44
abbrev z2n:Stmt:=top 47
abbrev z1e:Stmt:=top 40
abbrev z26:Stmt:=top 46
abbrev z70:Stmt:=top 48
/-- what the readings ask of the program's top -/
structure Txt (K:PySem.W.Frag) (mg:Str→Option Value):Prop where
 z_all:mg "all" = none
 z_bool:mg "bool" = none
 z_dict:mg "dict" = none
 z_int:mg "int" = none
 z_isinstance:mg "isinstance" = none
 z_len:mg "len" = none
 z_list:mg "list" = none
 z_max:mg "max" = none
 z_min:mg "min" = none
 z_range:mg "range" = none
 z_str:mg "str" = none
 z_tuple:mg "tuple" = none
 ty_bool:TyK K "bool"
 ty_int:TyK K "int"
 ty_str:TyK K "str"
 ty_tuple:TyK K "tuple"
 g_MOST_GROWINGS:∃ t,mg "MOST_GROWINGS" = some (.int 60 t)
 g_MOST_TILES:∃ t,mg "MOST_TILES" = some (.int 64 t)
/-! ### _law_cell_at -/
def z3u:DS:=(dSeq (dIf (dTr (eOpF pLt 1 (bOf (eC1 pLen (bVar 0))))) (dRet (eOpF pIx 0 (bVar 1))) z0N) (dRet (eD (.int 0))))
def z1c:DF:=gOf [] 2 z3u
theorem z4U:z1N z1c:=z0o
theorem z5O:FnScope ["script","k"] ["script","k"] (z06 z1X):=⟨rfl,rfl,rfl,by decide +kernel,rfl,by decide +kernel,by decide +kernel⟩
theorem z5Y {P:Program} {w:World} {K:PySem.W.Frag} {mg:Str→Option Value} {base:Heap} {f:Addr} {fd:FuncData} (F:Fun K "_law_cell_at" "_law_cell_at" z1X f fd) (hm:mg "_law_cell_at" = some (.ref f)) (hb:Binds K fd ["script","k"] []) (T:Txt K mg):KFn P w K mg base 1 "_law_cell_at" 2 z1c :=
 z15 (np:=[]) (fb:=z3u) F hm hb z5O (fun c cdv A outer s H E hr hnp=>by
  have hq:=z22 hr
  refine (@z03 _ _ _ _ _ _ ?_ ?_)
  ·refine (@z2b _ _ _ _ _ _ _ _ _ ?_ ?_ ?_)
   ·exact (@z5J _ _ _ _ _ _ _ _ _ _ z81 zaG (pv 1) (@z08 _ _ _ _ (@z13 _ _ _ _ _ _ rfl T.z_len (@z0a _ _ _ _ (pv 0)) (by rfl))) (z1a _))
   ·refine (@z0e _ _ _ _ ?_)
    refine (@z0u _ _ _ _ _ ?_)
    exact (@z0l _ _ _ _ _ _ _ _ _ z0k z0A (pv 0) (@z0a _ _ _ _ (pv 1)) (fun _ _=>rfl))
   ·exact z1j
  refine (@z0e _ _ _ _ ?_)
  refine (@z0u _ _ _ _ _ ?_)
  exact (@z04 _ _ _ _ _)) fun ss y h=>z0B h
/-! ### _law_pen_of -/
def z3G:DS:=(dSeq (dAsg (eMax (eVar 0) (eOp pSub (eD (.int 0)) (bVar 0))) (gNm [] 1)) (dRet (eLst (z09 (eVar 1) (z09 (eC1 pInt (bOf (eOpF pGe 1 (bOf (eOp pPow (eD (.int 10)) (bOf (eD (.int 18)))))))) (z09 (eOpF pMod 1 (bOf (eD (.int 1000003)))) aNil))))))
def z1r:DF:=gOf [] 2 z3G
theorem z5c:z1N z1r:=z0o
theorem sc__law_pen_of:FnScope ["cell","left"] ["cell"] (z06 z25):=⟨rfl,rfl,rfl,by decide +kernel,rfl,by decide +kernel,by decide +kernel⟩
theorem z6l {P:Program} {w:World} {K:PySem.W.Frag} {mg:Str→Option Value} {base:Heap} {f:Addr} {fd:FuncData} (F:Fun K "_law_pen_of" "_law_pen_of" z25 f fd) (hm:mg "_law_pen_of" = some (.ref f)) (hb:Binds K fd ["cell"] []) (T:Txt K mg):KFn P w K mg base 1 "_law_pen_of" 1 z1r :=
 z15 (np:=[]) (fb:=z3G) F hm hb sc__law_pen_of (fun c cdv A outer s H E hr hnp=>by
  have hq:=z22 hr
  refine (@z03 _ _ _ _ _ _ ?_ ?_)
  ·exact (@z0g _ _ _ _ _ _ ([]) (1) _ hnp sc__law_pen_of.nd rfl (by first | exact Or.inl rfl | exact Or.inr rfl) (@za8 _ _ _ _ _ _ _ _ rfl rfl T.z_max (@z01 _ _ _ _ (pv 0)) (@z0H _ _ _ _ _ _ _ _ _ _ z1R z1S (@z04 _ _ _ _ _) (@z0a _ _ _ _ (pv 0))) (by rfl) (by rfl) (by rfl)) rfl (Or.inl rfl))
  refine (@z0e _ _ _ _ ?_)
  refine (@z0u _ _ _ _ _ ?_)
  exact (@z2Z _ _ _ _ _ (@z02 _ _ _ _ _ _ (@z01 _ _ _ _ (pv 1)) (@z02 _ _ _ _ _ _ (@zcJ _ _ _ _ _ _ rfl T.z_int (@z08 _ _ _ _ (@z3N _ _ _ _ _ _ _ _ _ _ zet z3l (pv 1) (@z08 _ _ _ _ (@z0H _ _ _ _ _ _ _ _ _ _ zer zev (@z04 _ _ _ _ _) (@z08 _ _ _ _ (@z04 _ _ _ _ _)))) (z1a _))) (by rfl)) (@z02 _ _ _ _ _ _ (@z0E _ _ _ _ _ _ _ _ _ _ z80 z88 (pv 1) (@z08 _ _ _ _ (@z04 _ _ _ _ _))) (@z0s _ _) (by rfl)) (by rfl)) (by rfl)) (by decide))) fun ss y h=>z0B h
/-! ### _law_next -/
def z4y:DS:=(dSeq (dAsg (eOp pMod (eOpF pAdd 0 (bOf (eD (.int 7919)))) (bOf (eD (.int 2147483647)))) (gNm [] 0)) (dRet (eOp pMod (eOp pAdd (eOp pAdd (eOpF z2g 0 (bVar 0)) (bOf (eOp z2g (eD (.int 48271)) (bVar 0)))) (bOf (eD (.int 12345)))) (bOf (eD (.int 2147483629))))))
def z23:DF:=gOf [] 1 z4y
theorem z3U:z1N z23:=z0o
theorem sc__law_next:FnScope ["seed"] ["seed"] (z06 z2C):=⟨rfl,rfl,rfl,by decide +kernel,rfl,by decide +kernel,by decide +kernel⟩
theorem z86 {P:Program} {w:World} {K:PySem.W.Frag} {mg:Str→Option Value} {base:Heap} {f:Addr} {fd:FuncData} (F:Fun K "_law_next" "_law_next" z2C f fd) (hm:mg "_law_next" = some (.ref f)) (hb:Binds K fd ["seed"] []) (T:Txt K mg):KFn P w K mg base 1 "_law_next" 1 z23 :=
 z15 (np:=[]) (fb:=z4y) F hm hb sc__law_next (fun c cdv A outer s H E hr hnp=>by
  have hq:=z22 hr
  refine (@z03 _ _ _ _ _ _ ?_ ?_)
  ·exact (@z0g _ _ _ _ _ _ ([]) (0) _ hnp sc__law_next.nd rfl (by first | exact Or.inl rfl | exact Or.inr rfl) (@z0H _ _ _ _ _ _ _ _ _ _ z80 z88 (@z0E _ _ _ _ _ _ _ _ _ _ z0m z0w (pv 0) (@z08 _ _ _ _ (@z04 _ _ _ _ _))) (@z08 _ _ _ _ (@z04 _ _ _ _ _))) rfl (Or.inl rfl))
  refine (@z0e _ _ _ _ ?_)
  refine (@z0u _ _ _ _ _ ?_)
  exact (@z0H _ _ _ _ _ _ _ _ _ _ z80 z88 (@z0H _ _ _ _ _ _ _ _ _ _ z0m z0w (@z0H _ _ _ _ _ _ _ _ _ _ z0m z0w (@z0E _ _ _ _ _ _ _ _ _ _ z37 z39 (pv 0) (@z0a _ _ _ _ (pv 0))) (@z08 _ _ _ _ (@z0H _ _ _ _ _ _ _ _ _ _ z37 z39 (@z04 _ _ _ _ _) (@z0a _ _ _ _ (pv 0))))) (@z08 _ _ _ _ (@z04 _ _ _ _ _))) (@z08 _ _ _ _ (@z04 _ _ _ _ _)))) fun ss y h=>z0B h
/-! ### _law_draw -/
def z4z:DS:=(dSeq (dIf (dTr (eOp pEq (eOpF pIx 0 (bOf (eD (.int 1)))) (bOf (eD (.int 1))))) (dSeq (dAsg (eOp pMod (eOpF pIx 0 (bOf (eD (.int 0)))) (bVar 1)) (gNm [0] 2)) (dSeq (z8m 0 (eD (.int 0)) (eOp pDiv (eOpF pIx 0 (bOf (eD (.int 0)))) (bVar 1))) (dRet (eVar 2)))) z0N) (dSeq (z8m 0 (eD (.int 2)) (z05 z23 [.val (eOp pAdd (z05 z23 [.val (eOpF pIx 0 (bOf (eD (.int 2))))]) (bOf (eD (.int 7))))])) (dRet (eOp pMod (eOp pDiv (eOpF pIx 0 (bOf (eD (.int 2)))) (bOf (eD (.int 64)))) (bVar 1)))))
def z0d:DF:=gOf [0] 3 z4z
theorem z0n:z1N z0d:=z0o
theorem sc__law_draw:FnScope ["pen","many","found"] ["pen","many"] (z06 z2D):=⟨rfl,rfl,rfl,by decide +kernel,rfl,by decide +kernel,by decide +kernel⟩
theorem z87 {P:Program} {w:World} {K:PySem.W.Frag} {mg:Str→Option Value} {base:Heap} {f:Addr} {fd:FuncData} (F:Fun K "_law_draw" "_law_draw" z2D f fd) (hm:mg "_law_draw" = some (.ref f)) (hb:Binds K fd ["pen","many"] []) (T:Txt K mg) (k__law_next:KFn P w K mg base 1 "_law_next" 1 z23):KFn P w K mg base 2 "_law_draw" 2 z0d :=
 z15 (np:=[0]) (fb:=z4z) F hm hb sc__law_draw (fun c cdv A outer s H E hr hnp=>by
  have hq:=z22 hr
  refine (@z03 _ _ _ _ _ _ ?_ ?_)
  ·refine (@z2b _ _ _ _ _ _ _ _ _ ?_ ?_ ?_)
   ·exact (@z2w _ _ _ _ _ _ _ _ _ _ (z3k hq) z4O (@z0l _ _ _ _ _ _ _ _ _ z0k z0A (pv 0) (@z08 _ _ _ _ (@z04 _ _ _ _ _)) (fun _ _=>rfl)) (@z08 _ _ _ _ (@z04 _ _ _ _ _)) (z1a _))
   ·refine (@z03 _ _ _ _ _ _ ?_ ?_)
    ·exact (@z0g _ _ _ _ _ _ ([0]) (2) _ hnp sc__law_draw.nd rfl (by first | exact Or.inl rfl | exact Or.inr rfl) (@z0H _ _ _ _ _ _ _ _ _ _ z80 z88 (@z0l _ _ _ _ _ _ _ _ _ z0k z0A (pv 0) (@z08 _ _ _ _ (@z04 _ _ _ _ _)) (fun _ _=>rfl)) (@z0a _ _ _ _ (pv 1))) rfl (Or.inl rfl))
    refine (@z03 _ _ _ _ _ _ ?_ ?_)
    ·exact (@z8y _ _ _ _ _ _ _ _ _ _ (pv 0) (@z04 _ _ _ _ _) (@z0H _ _ _ _ _ _ _ _ _ _ z4l z5Z (@z0l _ _ _ _ _ _ _ _ _ z0k z0A (pv 0) (@z08 _ _ _ _ (@z04 _ _ _ _ _)) (fun _ _=>rfl)) (@z0a _ _ _ _ (pv 1))) (by intro _; rfl) (by rfl) (by rfl) (by rfl))
    refine (@z0e _ _ _ _ ?_)
    refine (@z0u _ _ _ _ _ ?_)
    exact (@z01 _ _ _ _ (pv 2))
   ·exact z1j
  refine (@z03 _ _ _ _ _ _ ?_ ?_)
  ·exact (@z8y _ _ _ _ _ _ _ _ _ _ (pv 0) (@z04 _ _ _ _ _) (@z0c _ _ _ _ _ (1) _ _ _ _ _ k__law_next z3U (hr.mono (by decide)) rfl (@z00 _ _ _ _ _ _ (@z0H _ _ _ _ _ _ _ _ _ _ z0m z0w (@z0c _ _ _ _ _ (1) _ _ _ _ _ k__law_next z3U (hr.mono (by decide)) rfl (@z00 _ _ _ _ _ _ (@z0l _ _ _ _ _ _ _ _ _ z0k z0A (pv 0) (@z08 _ _ _ _ (@z04 _ _ _ _ _)) (fun _ _=>rfl)) (@z0j _ _) (by rfl)) rfl (by decide) (by rfl) (by rfl)) (@z08 _ _ _ _ (@z04 _ _ _ _ _))) (@z0j _ _) (by rfl)) rfl (by decide) (by rfl) (by rfl)) (by intro _; rfl) (by rfl) (by rfl) (by rfl))
  refine (@z0e _ _ _ _ ?_)
  refine (@z0u _ _ _ _ _ ?_)
  exact (@z0H _ _ _ _ _ _ _ _ _ _ z80 z88 (@z0H _ _ _ _ _ _ _ _ _ _ z4l z5Z (@z0l _ _ _ _ _ _ _ _ _ z0k z0A (pv 0) (@z08 _ _ _ _ (@z04 _ _ _ _ _)) (fun _ _=>rfl)) (@z08 _ _ _ _ (@z04 _ _ _ _ _))) (@z0a _ _ _ _ (pv 1)))) fun ss y h=>z0B h
/-! ### _law_rule_by -/
def z2M:DS:=(dSeq (dAsg (eD (.str [97,98,99,100,101,102,103,104,105,106,107,108,109,110,111,112,113,114,115,116,117,118,119,120,121,122])) (gNm [0] 2)) (dSeq (dAsg (eOp pIx (zdn [.tup [.int 2,.int 2],.tup [.int 1,.int 2],.tup [.int 2,.int 1],.tup [.int 2,.int 2],.tup [.int 1,.int 3],.tup [.int 2,.int 3],.tup [.int 3,.int 1],.tup [.int 3,.int 2],.tup [.int 4,.int 4],.tup [.int 2,.int 2]]) (bOf (z05 z0d [.io 0,.val (eD (.int 10))]))) (gTp 2 (z0i (gNm [0] 3) (z0i (gNm [0] 4) z1F)))) (dSeq (dAsg (z05 z0d [.io 0,.val (eOp pSub (eD (.int 27)) (bVar 1))]) (gNm [0] 5)) (dSeq (dAsg (eSlN 2 (z19 (eVar 5)) (z19 (eOp pAdd (eOpF pAdd 5 (bOf (eD (.int 1)))) (bOf (z05 z0d [.io 0,.val (eVar 1)]))))) (gNm [0] 6)) (dSeq (dAsg (eOp pAdd (eD (.int 1)) (bOf (z05 z0d [.io 0,.val (eD (.int 3))]))) (gNm [0] 7)) (dSeq (dAsg (eLst aNil) (gNm [0] 8)) (dSeq (dFor (iSq (eVar 6)) (gNm [0] 9) (dSeq (dAsg (eLst aNil) (gNm [0] 10)) (dSeq (dFor (z0S (eVar 3)) (gNm [0] 11) (dSeq (dAsg (z28 [14] (z0S (eVar 4)) (gNm [0] 14) dYes (eOpF pIx 6 (bOf (eOp pDiv (z05 z0d [.io 0,.val (eC1 pLen (bVar 6))]) (bVar 7))))) (gNm [0] 12)) (z0W 10 (eC1 (z2t []) (bVar 12))))) (z0W 8 (eTup (z09 (eVar 9) (z09 (eC1 z1Q (bVar 10)) aNil))))))) (dSeq (dIf (dTr (eOp pEq (z05 z0d [.io 0,.val (eD (.int 2))]) (bOf (eD (.int 0))))) (dSeq (dAsg (eOpF pIx 8 (bOf (eD (.int 0)))) (gTp 2 (z0i (gNm [0] 9) (z0i (gNm [0] 13) z1F)))) (z8m 8 (eD (.int 0)) (eTup (z09 (eVar 9) (z09 (eOp pAdd (eTup (z09 (eOpF pAdd 9 (bOf (eSl (eOpF pIx 13 (bOf (eD (.int 0)))) (z19 (eD (.int 1))) z38))) aNil)) (bOf (eSlN 13 (z19 (eD (.int 1))) z38))) aNil))))) z0N) (dRet (eTup (z09 (eVar 3) (z09 (eVar 4) (z09 (eC1 z1Q (bVar 8)) aNil)))))))))))))
def z0R:DF:=gOf [0] 15 z2M
theorem z4T:z1N z0R:=z0o
theorem sc__law_rule_by:FnScope ["pen","most","letters","high","wide","start","tiles","alike","blocks","tile","rows","row","signs","block","column"] ["pen","most"] (z06 z1W):=⟨rfl,rfl,rfl,by decide +kernel,rfl,by decide +kernel,by decide +kernel⟩
theorem z5X {P:Program} {w:World} {K:PySem.W.Frag} {mg:Str→Option Value} {base:Heap} {f:Addr} {fd:FuncData} (F:Fun K "_law_rule_by" "_law_rule_by" z1W f fd) (hm:mg "_law_rule_by" = some (.ref f)) (hb:Binds K fd ["pen","most"] []) (T:Txt K mg) (k__law_draw:KFn P w K mg base 2 "_law_draw" 2 z0d):KFn P w K mg base 3 "_law_rule_by" 2 z0R :=
 z15 (np:=[0]) (fb:=z2M) F hm hb sc__law_rule_by (fun c cdv A outer s H E hr hnp=>by
  have hq:=z22 hr
  refine (@z03 _ _ _ _ _ _ ?_ ?_)
  ·exact (@z0g _ _ _ _ _ _ ([0]) (2) _ hnp sc__law_rule_by.nd rfl (by first | exact Or.inl rfl | exact Or.inr rfl) (@z6E _ _ _ _ _ [97,98,99,100,101,102,103,104,105,106,107,108,109,110,111,112,113,114,115,116,117,118,119,120,121,122] (by decide +kernel)) rfl (Or.inl rfl))
  refine (@z03 _ _ _ _ _ _ ?_ ?_)
  ·refine (@z5h _ _ _ _ _ _ _ ?_ ?_ (by rfl) (by rfl) (by rfl))
   ·exact (@zcI _ _ _ _ _ _ _ _ _ z0k z0A (@za9 _ _ _ _ _ (by rfl) (by decide)) (@z08 _ _ _ _ (@z0c _ _ _ _ _ (2) _ _ _ _ _ k__law_draw z0n (hr.mono (by decide)) rfl (@z2a _ _ _ _ _ _ (pv 0) (@z00 _ _ _ _ _ _ (@z04 _ _ _ _ _) (@z0j _ _) (by rfl)) (by rfl)) rfl (by decide) (by rfl) (by rfl))) (fun _ _=>rfl))
   ·exact (@z4C _ _ _ _ _ _ _ rfl (@z0D _ _ _ _ _ _ (@z0t _ _ _ ([0]) (3) _ hnp sc__law_rule_by.nd rfl (by first | exact Or.inl rfl | exact Or.inr rfl) (Or.inl rfl)) (@z0D _ _ _ _ _ _ (@z0t _ _ _ ([0]) (4) _ hnp sc__law_rule_by.nd rfl (by first | exact Or.inl rfl | exact Or.inr rfl) (Or.inl rfl)) (@z3B _ _) (by rfl)) (by rfl)) (by rfl) (by rfl))
  refine (@z03 _ _ _ _ _ _ ?_ ?_)
  ·exact (@z0g _ _ _ _ _ _ ([0]) (5) _ hnp sc__law_rule_by.nd rfl (by first | exact Or.inl rfl | exact Or.inr rfl) (@z0c _ _ _ _ _ (2) _ _ _ _ _ k__law_draw z0n (hr.mono (by decide)) rfl (@z2a _ _ _ _ _ _ (pv 0) (@z00 _ _ _ _ _ _ (@z0H _ _ _ _ _ _ _ _ _ _ z1R z1S (@z04 _ _ _ _ _) (@z0a _ _ _ _ (pv 1))) (@z0j _ _) (by rfl)) (by rfl)) rfl (by decide) (by rfl) (by rfl)) rfl (Or.inl rfl))
  refine (@z03 _ _ _ _ _ _ ?_ ?_)
  ·exact (@z0g _ _ _ _ _ _ ([0]) (6) _ hnp sc__law_rule_by.nd rfl (by first | exact Or.inl rfl | exact Or.inr rfl) (@z3x _ _ _ _ _ _ _ _ _ _ (pv 2) (@z1x _ _ _ _ (@z01 _ _ _ _ (pv 5))) (@z1x _ _ _ _ (@z0H _ _ _ _ _ _ _ _ _ _ z0m z0w (@z0E _ _ _ _ _ _ _ _ _ _ z0m z0w (pv 5) (@z08 _ _ _ _ (@z04 _ _ _ _ _))) (@z08 _ _ _ _ (@z0c _ _ _ _ _ (2) _ _ _ _ _ k__law_draw z0n (hr.mono (by decide)) rfl (@z2a _ _ _ _ _ _ (pv 0) (@z00 _ _ _ _ _ _ (@z01 _ _ _ _ (pv 1)) (@z0j _ _) (by rfl)) (by rfl)) rfl (by decide) (by rfl) (by rfl)))))) rfl (Or.inl rfl))
  refine (@z03 _ _ _ _ _ _ ?_ ?_)
  ·exact (@z0g _ _ _ _ _ _ ([0]) (7) _ hnp sc__law_rule_by.nd rfl (by first | exact Or.inl rfl | exact Or.inr rfl) (@z0H _ _ _ _ _ _ _ _ _ _ z0m z0w (@z04 _ _ _ _ _) (@z08 _ _ _ _ (@z0c _ _ _ _ _ (2) _ _ _ _ _ k__law_draw z0n (hr.mono (by decide)) rfl (@z2a _ _ _ _ _ _ (pv 0) (@z00 _ _ _ _ _ _ (@z04 _ _ _ _ _) (@z0j _ _) (by rfl)) (by rfl)) rfl (by decide) (by rfl) (by rfl)))) rfl (Or.inl rfl))
  refine (@z03 _ _ _ _ _ _ ?_ ?_)
  ·exact (@z0g _ _ _ _ _ _ ([0]) (8) _ hnp sc__law_rule_by.nd rfl (by first | exact Or.inl rfl | exact Or.inr rfl) (@z2Z _ _ _ _ _ (@z0s _ _) (by decide)) rfl (Or.inl rfl))
  refine (@z03 _ _ _ _ _ _ ?_ ?_)
  ·refine (@z2O _ _ _ _ _ _ _ _ _ PassesOwn.never rfl ?_ ?_ ?_ (by intro _; rfl))
   ·exact (@z3q _ _ _ _ _ (@z01 _ _ _ _ (pv 6)))
   ·exact (@z0t _ _ _ ([0]) (9) _ hnp sc__law_rule_by.nd rfl (by first | exact Or.inl rfl | exact Or.inr rfl) (Or.inl rfl))
   ·refine (@z03 _ _ _ _ _ _ ?_ ?_)
    ·exact (@z0g _ _ _ _ _ _ ([0]) (10) _ hnp sc__law_rule_by.nd rfl (by first | exact Or.inl rfl | exact Or.inr rfl) (@z2Z _ _ _ _ _ (@z0s _ _) (by decide)) rfl (Or.inl rfl))
    refine (@z03 _ _ _ _ _ _ ?_ ?_)
    ·refine (@z2O _ _ _ _ _ _ _ _ _ PassesOwn.never rfl ?_ ?_ ?_ (by intro _; rfl))
     ·exact (@z2c _ _ _ _ _ _ _ rfl T.z_range (@z01 _ _ _ _ (pv 3)) (by rfl))
     ·exact (@z0t _ _ _ ([0]) (11) _ hnp sc__law_rule_by.nd rfl (by first | exact Or.inl rfl | exact Or.inr rfl) (Or.inl rfl))
     ·refine (@z03 _ _ _ _ _ _ ?_ ?_)
      ·exact (@z6z _ _ ([14]) _ _ _ _ _ _ _ _ _ _ ([0]) (12) _ _ _ hnp rfl (@z1o _ _ _ rfl rfl) sc__law_rule_by.nd rfl rfl (@z2c _ _ _ _ _ _ _ rfl T.z_range (@z01 _ _ _ _ (pv 4)) (by rfl)) (fun l s0 H0 ex=>(@z1K _ _ _ _ ([0]) (14) _ hnp sc__law_rule_by.nd rfl (by first | exact Or.inl rfl | exact Or.inr rfl) (by first | exact Or.inl rfl | exact Or.inr rfl) (by decide))) (fun l s0 H0 ex=>(@z2r _ _)) (fun l s0 H0 ex=>(@z0l _ _ _ _ _ _ _ _ _ z0k z0A (pv 6) (@z08 _ _ _ _ (@z0H _ _ _ _ _ _ _ _ _ _ z4l z5Z (@z0c _ _ _ _ _ (2) _ _ _ _ _ k__law_draw z0n (hr.mono (by decide)) rfl (@z2a _ _ _ _ _ _ (pv 0) (@z00 _ _ _ _ _ _ (@z13 _ _ _ _ _ _ rfl T.z_len (@z0a _ _ _ _ (pv 6)) (by rfl)) (@z0j _ _) (by rfl)) (by rfl)) rfl (by decide) (by rfl) (by rfl)) (@z0a _ _ _ _ (pv 7)))) (fun _ _=>rfl))) (z3m hnp rfl) (by rfl) (by intro _; rfl))
      refine (@z0e _ _ _ _ ?_)
      exact (@z3w _ _ _ _ _ _ _ _ _ (pv 10) (@z5K _ _ _ _ _ _ _ _ _ [] (@z0a _ _ _ _ (pv 12)) (by decide +kernel) (by rfl) (by rfl) (by rfl) (by rfl)) (by rfl) (by rfl) (by rfl) (by rfl) (by rfl))
    refine (@z0e _ _ _ _ ?_)
    exact (@z3w _ _ _ _ _ _ _ _ _ (pv 8) (@z0G _ _ _ _ _ _ (@z02 _ _ _ _ _ _ (@z01 _ _ _ _ (pv 9)) (@z02 _ _ _ _ _ _ (@z3j _ _ _ _ _ _ rfl T.z_tuple (@z0a _ _ _ _ (pv 10)) (by rfl)) (@z0s _ _) (by rfl)) (by rfl)) (by decide)) (by rfl) (by rfl) (by rfl) (by rfl) (by rfl))
  refine (@z03 _ _ _ _ _ _ ?_ ?_)
  ·refine (@z2b _ _ _ _ _ _ _ _ _ ?_ ?_ ?_)
   ·exact (@z2w _ _ _ _ _ _ _ _ _ _ (z3k hq) z4O (@z0c _ _ _ _ _ (2) _ _ _ _ _ k__law_draw z0n (hr.mono (by decide)) rfl (@z2a _ _ _ _ _ _ (pv 0) (@z00 _ _ _ _ _ _ (@z04 _ _ _ _ _) (@z0j _ _) (by rfl)) (by rfl)) rfl (by decide) (by rfl) (by rfl)) (@z08 _ _ _ _ (@z04 _ _ _ _ _)) (z1a _))
   ·refine (@z03 _ _ _ _ _ _ ?_ ?_)
    ·refine (@z5h _ _ _ _ _ _ _ ?_ ?_ (by rfl) (by rfl) (by rfl))
     ·exact (@z0l _ _ _ _ _ _ _ _ _ z0k z0A (pv 8) (@z08 _ _ _ _ (@z04 _ _ _ _ _)) (fun _ _=>rfl))
     ·exact (@z4C _ _ _ _ _ _ _ rfl (@z0D _ _ _ _ _ _ (@z0t _ _ _ ([0]) (9) _ hnp sc__law_rule_by.nd rfl (by first | exact Or.inl rfl | exact Or.inr rfl) (Or.inl rfl)) (@z0D _ _ _ _ _ _ (@z0t _ _ _ ([0]) (13) _ hnp sc__law_rule_by.nd rfl (by first | exact Or.inl rfl | exact Or.inr rfl) (Or.inl rfl)) (@z3B _ _) (by rfl)) (by rfl)) (by rfl) (by rfl))
    refine (@z0e _ _ _ _ ?_)
    exact (@z8y _ _ _ _ _ _ _ _ _ _ (pv 8) (@z04 _ _ _ _ _) (@z0G _ _ _ _ _ _ (@z02 _ _ _ _ _ _ (@z01 _ _ _ _ (pv 9)) (@z02 _ _ _ _ _ _ (@z0H _ _ _ _ _ _ _ _ _ _ z0m z0w (@z0G _ _ _ _ _ _ (@z02 _ _ _ _ _ _ (@z0E _ _ _ _ _ _ _ _ _ _ z0m z0w (pv 9) (@z08 _ _ _ _ (@se_sl _ _ _ _ _ _ _ _ _ _ (@z0l _ _ _ _ _ _ _ _ _ z0k z0A (pv 13) (@z08 _ _ _ _ (@z04 _ _ _ _ _)) (fun _ _=>rfl)) (@z1x _ _ _ _ (@z04 _ _ _ _ _)) (@z3M _ _)))) (@z0s _ _) (by rfl)) (by decide)) (@z08 _ _ _ _ (@z3x _ _ _ _ _ _ _ _ _ _ (pv 13) (@z1x _ _ _ _ (@z04 _ _ _ _ _)) (@z3M _ _)))) (@z0s _ _) (by rfl)) (by rfl)) (by decide)) (by intro _; rfl) (by rfl) (by rfl) (by rfl))
   ·exact z1j
  refine (@z0e _ _ _ _ ?_)
  refine (@z0u _ _ _ _ _ ?_)
  exact (@z0G _ _ _ _ _ _ (@z02 _ _ _ _ _ _ (@z01 _ _ _ _ (pv 3)) (@z02 _ _ _ _ _ _ (@z01 _ _ _ _ (pv 4)) (@z02 _ _ _ _ _ _ (@z3j _ _ _ _ _ _ rfl T.z_tuple (@z0a _ _ _ _ (pv 8)) (by rfl)) (@z0s _ _) (by rfl)) (by rfl)) (by rfl)) (by decide))) fun ss y h=>z0B h
/-! ### _law_tiles_of -/
def z3g:DS:=(dRet (z28 [1,2] (iSq (eOpF pIx 0 (bOf (eD (.int 2))))) (gTp 2 (z0i (gNm [] 1) (z0i (gNm [] 2) z1F))) dYes (eVar 1)))
def z0q:DF:=gOf [] 3 z3g
theorem z2h:z1N z0q:=z0o
theorem sc__law_tiles_of:FnScope ["rule","tile","block"] ["rule"] (z06 z1A):=⟨rfl,rfl,rfl,by decide +kernel,rfl,by decide +kernel,by decide +kernel⟩
theorem z5p {P:Program} {w:World} {K:PySem.W.Frag} {mg:Str→Option Value} {base:Heap} {f:Addr} {fd:FuncData} (F:Fun K "_law_tiles_of" "_law_tiles_of" z1A f fd) (hm:mg "_law_tiles_of" = some (.ref f)) (hb:Binds K fd ["rule"] []) (T:Txt K mg):KFn P w K mg base 1 "_law_tiles_of" 1 z0q :=
 z15 (np:=[]) (fb:=z3g) F hm hb sc__law_tiles_of (fun c cdv A outer s H E hr hnp=>by
  have hq:=z22 hr
  refine (@z0e _ _ _ _ ?_)
  refine (@z0u _ _ _ _ _ ?_)
  exact (@z2U _ _ ([1,2]) _ _ _ _ _ _ _ _ _ _ rfl (@z1o _ _ _ rfl rfl) (@z3q _ _ _ _ _ (@z0l _ _ _ _ _ _ _ _ _ z0k z0A (pv 0) (@z08 _ _ _ _ (@z04 _ _ _ _ _)) (fun _ _=>rfl))) (fun l s0 H0 ex=>(@zcF _ _ _ _ _ _ _ _ rfl (@z7K _ _ _ _ _ _ _ (@z1K _ _ _ _ ([]) (1) _ hnp sc__law_tiles_of.nd rfl (by first | exact Or.inl rfl | exact Or.inr rfl) (by first | exact Or.inl rfl | exact Or.inr rfl) (by decide)) (@z7K _ _ _ _ _ _ _ (@z1K _ _ _ _ ([]) (2) _ hnp sc__law_tiles_of.nd rfl (by first | exact Or.inl rfl | exact Or.inr rfl) (by first | exact Or.inl rfl | exact Or.inr rfl) (by decide)) (@zbs _ _ _) (by rfl)) (by rfl)) (by rfl) (by rfl))) (fun l s0 H0 ex=>(@z2r _ _)) (fun l s0 H0 ex=>(@z01 _ _ _ _ (pv 1))) (z3m hnp rfl) (by intro _; rfl))) fun ss y h=>z0B h
/-! ### _law_grown_of -/
abbrev B7_:DS:=dSeq (dAsg (eC1 z2E (bOf (eOpF pIx 0 (bOf (eD (.int 2)))))) (gNm [] 2)) (dSeq (dAsg (eLst aNil) (gNm [] 3)) (dSeq (dFor (iSq (eVar 1)) (gNm [] 4) (dFor (z0S (eOpF pIx 0 (bOf (eD (.int 0))))) (gNm [] 5) (dSeq (dAsg (eD (.str [])) (gNm [] 6)) (dSeq (dFor (iSq (eVar 4)) (gNm [] 7) (dAsg (eOpF pAdd 6 (bOf (eOp pIx (eOpF pIxX 2 (bVar 7)) (bVar 5)))) (gNm [] 6))) (z0W 3 (eVar 6)))))) (dRet (eC1 z1Q (bVar 3)))))
def z3i:DS:=(B7_)
def z0C:DF:=gOf [] 8 z3i
theorem z3c:z1N z0C:=z0o
theorem sc__law_grown_of:FnScope ["rule","floor","blocks","found","row","line","signs","tile"] ["rule","floor"] (z06 z1C):=⟨rfl,rfl,rfl,by decide +kernel,rfl,by decide +kernel,by decide +kernel⟩
theorem z5r {P:Program} {w:World} {K:PySem.W.Frag} {mg:Str→Option Value} {base:Heap} {f:Addr} {fd:FuncData} (F:Fun K "_law_grown_of" "_law_grown_of" z1C f fd) (hm:mg "_law_grown_of" = some (.ref f)) (hb:Binds K fd ["rule","floor"] []) (T:Txt K mg):KFn P w K mg base 1 "_law_grown_of" 2 z0C :=
 z15 (np:=[]) (fb:=z3i) F hm hb sc__law_grown_of (fun c cdv A outer s H E hr hnp=>by
  have hq:=z22 hr
  refine (@z03 _ _ _ _ _ _ ?_ ?_)
  ·exact (@z0g _ _ _ _ _ _ ([]) (2) _ hnp sc__law_grown_of.nd rfl (by first | exact Or.inl rfl | exact Or.inr rfl) (@z4D _ _ _ _ _ _ rfl rfl T.z_dict (@z08 _ _ _ _ (@z0l _ _ _ _ _ _ _ _ _ z0k z0A (pv 0) (@z08 _ _ _ _ (@z04 _ _ _ _ _)) (fun _ _=>rfl))) (by rfl)) rfl (Or.inl rfl))
  refine (@z03 _ _ _ _ _ _ ?_ ?_)
  ·exact (@z0g _ _ _ _ _ _ ([]) (3) _ hnp sc__law_grown_of.nd rfl (by first | exact Or.inl rfl | exact Or.inr rfl) (@z2Z _ _ _ _ _ (@z0s _ _) (by decide)) rfl (Or.inl rfl))
  refine (@z03 _ _ _ _ _ _ ?_ ?_)
  ·refine (@z2O _ _ _ _ _ _ _ _ _ PassesOwn.never rfl ?_ ?_ ?_ (by intro _; rfl))
   ·exact (@z3q _ _ _ _ _ (@z01 _ _ _ _ (pv 1)))
   ·exact (@z0t _ _ _ ([]) (4) _ hnp sc__law_grown_of.nd rfl (by first | exact Or.inl rfl | exact Or.inr rfl) (Or.inl rfl))
   ·refine (@z0e _ _ _ _ ?_)
    refine (@z2O _ _ _ _ _ _ _ _ _ PassesOwn.never rfl ?_ ?_ ?_ (by intro _; rfl))
    ·exact (@z2c _ _ _ _ _ _ _ rfl T.z_range (@z0l _ _ _ _ _ _ _ _ _ z0k z0A (pv 0) (@z08 _ _ _ _ (@z04 _ _ _ _ _)) (fun _ _=>rfl)) (by rfl))
    ·exact (@z0t _ _ _ ([]) (5) _ hnp sc__law_grown_of.nd rfl (by first | exact Or.inl rfl | exact Or.inr rfl) (Or.inl rfl))
    ·refine (@z03 _ _ _ _ _ _ ?_ ?_)
     ·exact (@z0g _ _ _ _ _ _ ([]) (6) _ hnp sc__law_grown_of.nd rfl (by first | exact Or.inl rfl | exact Or.inr rfl) (@z6E _ _ _ _ _ [] (by decide +kernel)) rfl (Or.inl rfl))
     refine (@z03 _ _ _ _ _ _ ?_ ?_)
     ·refine (@z2O _ _ _ _ _ _ _ _ _ PassesOwn.never rfl ?_ ?_ ?_ (by intro _; rfl))
      ·exact (@z3q _ _ _ _ _ (@z01 _ _ _ _ (pv 4)))
      ·exact (@z0t _ _ _ ([]) (7) _ hnp sc__law_grown_of.nd rfl (by first | exact Or.inl rfl | exact Or.inr rfl) (Or.inl rfl))
      ·refine (@z0e _ _ _ _ ?_)
       exact (@z0g _ _ _ _ _ _ ([]) (6) _ hnp sc__law_grown_of.nd rfl (by first | exact Or.inl rfl | exact Or.inr rfl) (@z0E _ _ _ _ _ _ _ _ _ _ z0m z0w (pv 6) (@z08 _ _ _ _ (@zcI _ _ _ _ _ _ _ _ _ z0k z0A (@z0l _ _ _ _ _ _ _ _ _ (ix_X hq) zce (pv 2) (@z0a _ _ _ _ (pv 7)) (fun _ _=>rfl)) (@z0a _ _ _ _ (pv 5)) (fun _ _=>rfl)))) rfl (Or.inl rfl))
     refine (@z0e _ _ _ _ ?_)
     exact (@z3w _ _ _ _ _ _ _ _ _ (pv 3) (@z01 _ _ _ _ (pv 6)) (by rfl) (by rfl) (by rfl) (by rfl) (by rfl))
  refine (@z0e _ _ _ _ ?_)
  refine (@z0u _ _ _ _ _ ?_)
  exact (@z3j _ _ _ _ _ _ rfl T.z_tuple (@z0a _ _ _ _ (pv 3)) (by rfl))) fun ss y h=>z0B h
/-! ### _law_cut -/
def z4a:DS:=(dRet (eC1 z1Q (bOf (z28 [5] (iSq (eSlN 0 (z19 (eVar 1)) (z19 (eOpF pAdd 1 (bVar 3))))) (gNm [] 5) dYes (eSlN 5 (z19 (eVar 2)) (z19 (eOpF pAdd 2 (bVar 4))))))))
def z1E:DF:=gOf [] 6 z4a
theorem z4i:z1N z1E:=z0o
theorem sc__law_cut:FnScope ["floor","row","column","high","wide","line"] ["floor","row","column","high","wide"] (z06 z33):=⟨rfl,rfl,rfl,by decide +kernel,rfl,by decide +kernel,by decide +kernel⟩
theorem z8L {P:Program} {w:World} {K:PySem.W.Frag} {mg:Str→Option Value} {base:Heap} {f:Addr} {fd:FuncData} (F:Fun K "_law_cut" "_law_cut" z33 f fd) (hm:mg "_law_cut" = some (.ref f)) (hb:Binds K fd ["floor","row","column","high","wide"] []) (T:Txt K mg):KFn P w K mg base 1 "_law_cut" 5 z1E :=
 z15 (np:=[]) (fb:=z4a) F hm hb sc__law_cut (fun c cdv A outer s H E hr hnp=>by
  have hq:=z22 hr
  refine (@z0e _ _ _ _ ?_)
  refine (@z0u _ _ _ _ _ ?_)
  exact (@z3j _ _ _ _ _ _ rfl T.z_tuple (@z08 _ _ _ _ (@z2U _ _ ([5]) _ _ _ _ _ _ _ _ _ _ rfl (@z1o _ _ _ rfl rfl) (@z3q _ _ _ _ _ (@z3x _ _ _ _ _ _ _ _ _ _ (pv 0) (@z1x _ _ _ _ (@z01 _ _ _ _ (pv 1))) (@z1x _ _ _ _ (@z0E _ _ _ _ _ _ _ _ _ _ z0m z0w (pv 1) (@z0a _ _ _ _ (pv 3)))))) (fun l s0 H0 ex=>(@z1K _ _ _ _ ([]) (5) _ hnp sc__law_cut.nd rfl (by first | exact Or.inl rfl | exact Or.inr rfl) (by first | exact Or.inl rfl | exact Or.inr rfl) (by decide))) (fun l s0 H0 ex=>(@z2r _ _)) (fun l s0 H0 ex=>(@z3x _ _ _ _ _ _ _ _ _ _ (pv 5) (@z1x _ _ _ _ (@z01 _ _ _ _ (pv 2))) (@z1x _ _ _ _ (@z0E _ _ _ _ _ _ _ _ _ _ z0m z0w (pv 2) (@z0a _ _ _ _ (pv 4)))))) (z3m hnp rfl) (by intro _; rfl))) (by rfl))) fun ss y h=>z0B h
/-! ### _law_built -/
def z45:DS:=(dSeq (dAsg (eTup (z09 (eVar 2) aNil)) (gNm [0] 3)) (dSeq (dAsg (eTup aNil) (gNm [0] 4)) (dSeq (dAsg (eD (.tup [.int 0,.int 0,.int 0])) (gNm [0] 5)) (dSeq (dFor (z0S (z05 z0d [.io 0,.val (eD (.int 6))])) (gNm [0] 6) (dSeq (dAsg (z05 z0C [.val (eVar 1),.val (eVar 3)]) (gNm [0] 7)) (dSeq (dAsg (z05 z0d [.io 0,.val (eOpF pIx 1 (bOf (eD (.int 0))))]) (gNm [0] 8)) (dSeq (dAsg (z05 z0d [.io 0,.val (eOpF pIx 1 (bOf (eD (.int 1))))]) (gNm [0] 9)) (dSeq (dIf (dTr (eOp pEq (eC1 pLen (bVar 3)) (bOf (eD (.int 1))))) (dAsg (eOp pAdd (eD (.int 1)) (bOf (z05 z0d [.io 0,.val (eMin (eD (.int 8)) (eOp pSub (eOpF pIx 1 (bOf (eD (.int 0)))) (bVar 8)))]))) (gNm [0] 10)) (dSeq (dAsg (eOp pSub (eOp pAdd (eOp z2g (eOp pSub (eC1 pLen (bVar 3)) (bOf (eD (.int 1)))) (bOf (eOpF pIx 1 (bOf (eD (.int 0)))))) (bOf (eD (.int 1)))) (bVar 8)) (gNm [0] 11)) (dAsg (eOpF pAdd 11 (bOf (z05 z0d [.io 0,.val (eMax (eD (.int 1)) (eOp pAdd (eOp pSub (eMin (eD (.int 8)) (eOp pSub (eC1 pLen (bVar 7)) (bVar 8))) (bVar 11)) (bOf (eD (.int 1)))))]))) (gNm [0] 10)))) (dSeq (dIf (dTr (eOp pEq (eC1 pLen (bOf (eOpF pIx 3 (bOf (eD (.int 0)))))) (bOf (eD (.int 1))))) (dAsg (eOp pAdd (eD (.int 1)) (bOf (z05 z0d [.io 0,.val (eMin (eD (.int 8)) (eOp pSub (eOpF pIx 1 (bOf (eD (.int 1)))) (bVar 9)))]))) (gNm [0] 12)) (dSeq (dAsg (eOp pSub (eOp pAdd (eOp z2g (eOp pSub (eC1 pLen (bOf (eOpF pIx 3 (bOf (eD (.int 0)))))) (bOf (eD (.int 1)))) (bOf (eOpF pIx 1 (bOf (eD (.int 1)))))) (bOf (eD (.int 1)))) (bVar 9)) (gNm [0] 11)) (dAsg (eOpF pAdd 11 (bOf (z05 z0d [.io 0,.val (eMax (eD (.int 1)) (eOp pAdd (eOp pSub (eMin (eD (.int 8)) (eOp pSub (eC1 pLen (bOf (eOpF pIx 7 (bOf (eD (.int 0)))))) (bVar 9))) (bVar 11)) (bOf (eD (.int 1)))))]))) (gNm [0] 12)))) (dIf (dAnd (dTr (eOpF pLt 10 (bOf (eD (.int 9))))) (dTr (eOpF pLt 12 (bOf (eD (.int 9)))))) (dSeq (dAsg (eOp pAdd (eTup (z09 (eTup (z09 (eVar 8) (z09 (eVar 9) (z09 (eVar 3) aNil)))) aNil)) (bVar 4)) (gNm [0] 4)) (dSeq (dAsg (z05 z1E [.val (eVar 7),.val (eVar 8),.val (eVar 9),.val (eVar 10),.val (eVar 12)]) (gNm [0] 3)) (dAsg (eTup (z09 (eOp pAdd (eOpF pIx 5 (bOf (eD (.int 0)))) (bOf (eD (.int 1)))) (z09 (eOp pAdd (eOp z2g (eOpF pIx 5 (bOf (eD (.int 1)))) (bOf (eOpF pIx 1 (bOf (eD (.int 0)))))) (bVar 8)) (z09 (eOp pAdd (eOp z2g (eOpF pIx 5 (bOf (eD (.int 2)))) (bOf (eOpF pIx 1 (bOf (eD (.int 1)))))) (bVar 9)) aNil)))) (gNm [0] 5)))) z0N))))))) (dRet (eTup (z09 (eVar 3) (z09 (eVar 4) (z09 (eVar 5) aNil)))))))))
def z1J:DF:=gOf [0] 13 z45
theorem z5v:z1N z1J:=z0o
theorem sc__law_built:FnScope ["pen","rule","tile","floor","way","place","turn","grown","i","j","high","first","wide"] ["pen","rule","tile"] (z06 z2o):=⟨rfl,rfl,rfl,by decide +kernel,rfl,by decide +kernel,by decide +kernel⟩
theorem z7g {P:Program} {w:World} {K:PySem.W.Frag} {mg:Str→Option Value} {base:Heap} {f:Addr} {fd:FuncData} (F:Fun K "_law_built" "_law_built" z2o f fd) (hm:mg "_law_built" = some (.ref f)) (hb:Binds K fd ["pen","rule","tile"] []) (T:Txt K mg) (k__law_draw:KFn P w K mg base 2 "_law_draw" 2 z0d) (k__law_grown_of:KFn P w K mg base 1 "_law_grown_of" 2 z0C) (k__law_cut:KFn P w K mg base 1 "_law_cut" 5 z1E):KFn P w K mg base 3 "_law_built" 3 z1J :=
 z15 (np:=[0]) (fb:=z45) F hm hb sc__law_built (fun c cdv A outer s H E hr hnp=>by
  have hq:=z22 hr
  refine (@z03 _ _ _ _ _ _ ?_ ?_)
  ·exact (@z0g _ _ _ _ _ _ ([0]) (3) _ hnp sc__law_built.nd rfl (by first | exact Or.inl rfl | exact Or.inr rfl) (@z0G _ _ _ _ _ _ (@z02 _ _ _ _ _ _ (@z01 _ _ _ _ (pv 2)) (@z0s _ _) (by rfl)) (by decide)) rfl (Or.inl rfl))
  refine (@z03 _ _ _ _ _ _ ?_ ?_)
  ·exact (@z0g _ _ _ _ _ _ ([0]) (4) _ hnp sc__law_built.nd rfl (by first | exact Or.inl rfl | exact Or.inr rfl) (@z0G _ _ _ _ _ _ (@z0s _ _) (by decide)) rfl (Or.inl rfl))
  refine (@z03 _ _ _ _ _ _ ?_ ?_)
  ·exact (@z0g _ _ _ _ _ _ ([0]) (5) _ hnp sc__law_built.nd rfl (by first | exact Or.inl rfl | exact Or.inr rfl) (@z4E _ _ _ _ (by rfl)) rfl (Or.inl rfl))
  refine (@z03 _ _ _ _ _ _ ?_ ?_)
  ·refine (@z2O _ _ _ _ _ _ _ _ _ PassesOwn.never rfl ?_ ?_ ?_ (by intro _; rfl))
   ·exact (@z2c _ _ _ _ _ _ _ rfl T.z_range (@z0c _ _ _ _ _ (2) _ _ _ _ _ k__law_draw z0n (hr.mono (by decide)) rfl (@z2a _ _ _ _ _ _ (pv 0) (@z00 _ _ _ _ _ _ (@z04 _ _ _ _ _) (@z0j _ _) (by rfl)) (by rfl)) rfl (by decide) (by rfl) (by rfl)) (by rfl))
   ·exact (@z0t _ _ _ ([0]) (6) _ hnp sc__law_built.nd rfl (by first | exact Or.inl rfl | exact Or.inr rfl) (Or.inl rfl))
   ·refine (@z03 _ _ _ _ _ _ ?_ ?_)
    ·exact (@z0g _ _ _ _ _ _ ([0]) (7) _ hnp sc__law_built.nd rfl (by first | exact Or.inl rfl | exact Or.inr rfl) (@z0c _ _ _ _ _ (1) _ _ _ _ _ k__law_grown_of z3c (hr.mono (by decide)) rfl (@z00 _ _ _ _ _ _ (@z01 _ _ _ _ (pv 1)) (@z00 _ _ _ _ _ _ (@z01 _ _ _ _ (pv 3)) (@z0j _ _) (by rfl)) (by rfl)) rfl (by decide) (by rfl) (by rfl)) rfl (Or.inl rfl))
    refine (@z03 _ _ _ _ _ _ ?_ ?_)
    ·exact (@z0g _ _ _ _ _ _ ([0]) (8) _ hnp sc__law_built.nd rfl (by first | exact Or.inl rfl | exact Or.inr rfl) (@z0c _ _ _ _ _ (2) _ _ _ _ _ k__law_draw z0n (hr.mono (by decide)) rfl (@z2a _ _ _ _ _ _ (pv 0) (@z00 _ _ _ _ _ _ (@z0l _ _ _ _ _ _ _ _ _ z0k z0A (pv 1) (@z08 _ _ _ _ (@z04 _ _ _ _ _)) (fun _ _=>rfl)) (@z0j _ _) (by rfl)) (by rfl)) rfl (by decide) (by rfl) (by rfl)) rfl (Or.inl rfl))
    refine (@z03 _ _ _ _ _ _ ?_ ?_)
    ·exact (@z0g _ _ _ _ _ _ ([0]) (9) _ hnp sc__law_built.nd rfl (by first | exact Or.inl rfl | exact Or.inr rfl) (@z0c _ _ _ _ _ (2) _ _ _ _ _ k__law_draw z0n (hr.mono (by decide)) rfl (@z2a _ _ _ _ _ _ (pv 0) (@z00 _ _ _ _ _ _ (@z0l _ _ _ _ _ _ _ _ _ z0k z0A (pv 1) (@z08 _ _ _ _ (@z04 _ _ _ _ _)) (fun _ _=>rfl)) (@z0j _ _) (by rfl)) (by rfl)) rfl (by decide) (by rfl) (by rfl)) rfl (Or.inl rfl))
    refine (@z03 _ _ _ _ _ _ ?_ ?_)
    ·refine (@z2b _ _ _ _ _ _ _ _ _ ?_ ?_ ?_)
     ·exact (@z2w _ _ _ _ _ _ _ _ _ _ (z3k hq) z4O (@z13 _ _ _ _ _ _ rfl T.z_len (@z0a _ _ _ _ (pv 3)) (by rfl)) (@z08 _ _ _ _ (@z04 _ _ _ _ _)) (z1a _))
     ·refine (@z0e _ _ _ _ ?_)
      exact (@z0g _ _ _ _ _ _ ([0]) (10) _ hnp sc__law_built.nd rfl (by first | exact Or.inl rfl | exact Or.inr rfl) (@z0H _ _ _ _ _ _ _ _ _ _ z0m z0w (@z04 _ _ _ _ _) (@z08 _ _ _ _ (@z0c _ _ _ _ _ (2) _ _ _ _ _ k__law_draw z0n (hr.mono (by decide)) rfl (@z2a _ _ _ _ _ _ (pv 0) (@z00 _ _ _ _ _ _ (@z92 _ _ _ _ _ _ _ _ rfl rfl T.z_min (@z04 _ _ _ _ _) (@z0H _ _ _ _ _ _ _ _ _ _ z1R z1S (@z0l _ _ _ _ _ _ _ _ _ z0k z0A (pv 1) (@z08 _ _ _ _ (@z04 _ _ _ _ _)) (fun _ _=>rfl)) (@z0a _ _ _ _ (pv 8))) (by rfl) (by rfl) (by rfl)) (@z0j _ _) (by rfl)) (by rfl)) rfl (by decide) (by rfl) (by rfl)))) rfl (Or.inl rfl))
     ·refine (@z03 _ _ _ _ _ _ ?_ ?_)
      ·exact (@z0g _ _ _ _ _ _ ([0]) (11) _ hnp sc__law_built.nd rfl (by first | exact Or.inl rfl | exact Or.inr rfl) (@z0H _ _ _ _ _ _ _ _ _ _ z1R z1S (@z0H _ _ _ _ _ _ _ _ _ _ z0m z0w (@z0H _ _ _ _ _ _ _ _ _ _ z37 z39 (@z0H _ _ _ _ _ _ _ _ _ _ z1R z1S (@z13 _ _ _ _ _ _ rfl T.z_len (@z0a _ _ _ _ (pv 3)) (by rfl)) (@z08 _ _ _ _ (@z04 _ _ _ _ _))) (@z08 _ _ _ _ (@z0l _ _ _ _ _ _ _ _ _ z0k z0A (pv 1) (@z08 _ _ _ _ (@z04 _ _ _ _ _)) (fun _ _=>rfl)))) (@z08 _ _ _ _ (@z04 _ _ _ _ _))) (@z0a _ _ _ _ (pv 8))) rfl (Or.inl rfl))
      refine (@z0e _ _ _ _ ?_)
      exact (@z0g _ _ _ _ _ _ ([0]) (10) _ hnp sc__law_built.nd rfl (by first | exact Or.inl rfl | exact Or.inr rfl) (@z0E _ _ _ _ _ _ _ _ _ _ z0m z0w (pv 11) (@z08 _ _ _ _ (@z0c _ _ _ _ _ (2) _ _ _ _ _ k__law_draw z0n (hr.mono (by decide)) rfl (@z2a _ _ _ _ _ _ (pv 0) (@z00 _ _ _ _ _ _ (@za8 _ _ _ _ _ _ _ _ rfl rfl T.z_max (@z04 _ _ _ _ _) (@z0H _ _ _ _ _ _ _ _ _ _ z0m z0w (@z0H _ _ _ _ _ _ _ _ _ _ z1R z1S (@z92 _ _ _ _ _ _ _ _ rfl rfl T.z_min (@z04 _ _ _ _ _) (@z0H _ _ _ _ _ _ _ _ _ _ z1R z1S (@z13 _ _ _ _ _ _ rfl T.z_len (@z0a _ _ _ _ (pv 7)) (by rfl)) (@z0a _ _ _ _ (pv 8))) (by rfl) (by rfl) (by rfl)) (@z0a _ _ _ _ (pv 11))) (@z08 _ _ _ _ (@z04 _ _ _ _ _))) (by rfl) (by rfl) (by rfl)) (@z0j _ _) (by rfl)) (by rfl)) rfl (by decide) (by rfl) (by rfl)))) rfl (Or.inl rfl))
    refine (@z03 _ _ _ _ _ _ ?_ ?_)
    ·refine (@z2b _ _ _ _ _ _ _ _ _ ?_ ?_ ?_)
     ·exact (@z2w _ _ _ _ _ _ _ _ _ _ (z3k hq) z4O (@z13 _ _ _ _ _ _ rfl T.z_len (@z08 _ _ _ _ (@z0l _ _ _ _ _ _ _ _ _ z0k z0A (pv 3) (@z08 _ _ _ _ (@z04 _ _ _ _ _)) (fun _ _=>rfl))) (by rfl)) (@z08 _ _ _ _ (@z04 _ _ _ _ _)) (z1a _))
     ·refine (@z0e _ _ _ _ ?_)
      exact (@z0g _ _ _ _ _ _ ([0]) (12) _ hnp sc__law_built.nd rfl (by first | exact Or.inl rfl | exact Or.inr rfl) (@z0H _ _ _ _ _ _ _ _ _ _ z0m z0w (@z04 _ _ _ _ _) (@z08 _ _ _ _ (@z0c _ _ _ _ _ (2) _ _ _ _ _ k__law_draw z0n (hr.mono (by decide)) rfl (@z2a _ _ _ _ _ _ (pv 0) (@z00 _ _ _ _ _ _ (@z92 _ _ _ _ _ _ _ _ rfl rfl T.z_min (@z04 _ _ _ _ _) (@z0H _ _ _ _ _ _ _ _ _ _ z1R z1S (@z0l _ _ _ _ _ _ _ _ _ z0k z0A (pv 1) (@z08 _ _ _ _ (@z04 _ _ _ _ _)) (fun _ _=>rfl)) (@z0a _ _ _ _ (pv 9))) (by rfl) (by rfl) (by rfl)) (@z0j _ _) (by rfl)) (by rfl)) rfl (by decide) (by rfl) (by rfl)))) rfl (Or.inl rfl))
     ·refine (@z03 _ _ _ _ _ _ ?_ ?_)
      ·exact (@z0g _ _ _ _ _ _ ([0]) (11) _ hnp sc__law_built.nd rfl (by first | exact Or.inl rfl | exact Or.inr rfl) (@z0H _ _ _ _ _ _ _ _ _ _ z1R z1S (@z0H _ _ _ _ _ _ _ _ _ _ z0m z0w (@z0H _ _ _ _ _ _ _ _ _ _ z37 z39 (@z0H _ _ _ _ _ _ _ _ _ _ z1R z1S (@z13 _ _ _ _ _ _ rfl T.z_len (@z08 _ _ _ _ (@z0l _ _ _ _ _ _ _ _ _ z0k z0A (pv 3) (@z08 _ _ _ _ (@z04 _ _ _ _ _)) (fun _ _=>rfl))) (by rfl)) (@z08 _ _ _ _ (@z04 _ _ _ _ _))) (@z08 _ _ _ _ (@z0l _ _ _ _ _ _ _ _ _ z0k z0A (pv 1) (@z08 _ _ _ _ (@z04 _ _ _ _ _)) (fun _ _=>rfl)))) (@z08 _ _ _ _ (@z04 _ _ _ _ _))) (@z0a _ _ _ _ (pv 9))) rfl (Or.inl rfl))
      refine (@z0e _ _ _ _ ?_)
      exact (@z0g _ _ _ _ _ _ ([0]) (12) _ hnp sc__law_built.nd rfl (by first | exact Or.inl rfl | exact Or.inr rfl) (@z0E _ _ _ _ _ _ _ _ _ _ z0m z0w (pv 11) (@z08 _ _ _ _ (@z0c _ _ _ _ _ (2) _ _ _ _ _ k__law_draw z0n (hr.mono (by decide)) rfl (@z2a _ _ _ _ _ _ (pv 0) (@z00 _ _ _ _ _ _ (@za8 _ _ _ _ _ _ _ _ rfl rfl T.z_max (@z04 _ _ _ _ _) (@z0H _ _ _ _ _ _ _ _ _ _ z0m z0w (@z0H _ _ _ _ _ _ _ _ _ _ z1R z1S (@z92 _ _ _ _ _ _ _ _ rfl rfl T.z_min (@z04 _ _ _ _ _) (@z0H _ _ _ _ _ _ _ _ _ _ z1R z1S (@z13 _ _ _ _ _ _ rfl T.z_len (@z08 _ _ _ _ (@z0l _ _ _ _ _ _ _ _ _ z0k z0A (pv 7) (@z08 _ _ _ _ (@z04 _ _ _ _ _)) (fun _ _=>rfl))) (by rfl)) (@z0a _ _ _ _ (pv 9))) (by rfl) (by rfl) (by rfl)) (@z0a _ _ _ _ (pv 11))) (@z08 _ _ _ _ (@z04 _ _ _ _ _))) (by rfl) (by rfl) (by rfl)) (@z0j _ _) (by rfl)) (by rfl)) rfl (by decide) (by rfl) (by rfl)))) rfl (Or.inl rfl))
    refine (@z0e _ _ _ _ ?_)
    refine (@z2b _ _ _ _ _ _ _ _ _ ?_ ?_ ?_)
    ·exact (@z4b _ _ _ _ (@zdJ _ _ _ _ _ _ _ _ (@z5J _ _ _ _ _ _ _ _ _ _ z81 zaG (pv 10) (@z08 _ _ _ _ (@z04 _ _ _ _ _)) (z1a _)) (@zcx _ _ _ _ _ (@z5J _ _ _ _ _ _ _ _ _ _ z81 zaG (pv 12) (@z08 _ _ _ _ (@z04 _ _ _ _ _)) (z1a _)))))
    ·refine (@z03 _ _ _ _ _ _ ?_ ?_)
     ·exact (@z0g _ _ _ _ _ _ ([0]) (4) _ hnp sc__law_built.nd rfl (by first | exact Or.inl rfl | exact Or.inr rfl) (@z0H _ _ _ _ _ _ _ _ _ _ z0m z0w (@z0G _ _ _ _ _ _ (@z02 _ _ _ _ _ _ (@z0G _ _ _ _ _ _ (@z02 _ _ _ _ _ _ (@z01 _ _ _ _ (pv 8)) (@z02 _ _ _ _ _ _ (@z01 _ _ _ _ (pv 9)) (@z02 _ _ _ _ _ _ (@z01 _ _ _ _ (pv 3)) (@z0s _ _) (by rfl)) (by rfl)) (by rfl)) (by decide)) (@z0s _ _) (by rfl)) (by decide)) (@z0a _ _ _ _ (pv 4))) rfl (Or.inl rfl))
     refine (@z03 _ _ _ _ _ _ ?_ ?_)
     ·exact (@z0g _ _ _ _ _ _ ([0]) (3) _ hnp sc__law_built.nd rfl (by first | exact Or.inl rfl | exact Or.inr rfl) (@z0c _ _ _ _ _ (1) _ _ _ _ _ k__law_cut z4i (hr.mono (by decide)) rfl (@z00 _ _ _ _ _ _ (@z01 _ _ _ _ (pv 7)) (@z00 _ _ _ _ _ _ (@z01 _ _ _ _ (pv 8)) (@z00 _ _ _ _ _ _ (@z01 _ _ _ _ (pv 9)) (@z00 _ _ _ _ _ _ (@z01 _ _ _ _ (pv 10)) (@z00 _ _ _ _ _ _ (@z01 _ _ _ _ (pv 12)) (@z0j _ _) (by rfl)) (by rfl)) (by rfl)) (by rfl)) (by rfl)) rfl (by decide) (by rfl) (by rfl)) rfl (Or.inl rfl))
     refine (@z0e _ _ _ _ ?_)
     exact (@z0g _ _ _ _ _ _ ([0]) (5) _ hnp sc__law_built.nd rfl (by first | exact Or.inl rfl | exact Or.inr rfl) (@z0G _ _ _ _ _ _ (@z02 _ _ _ _ _ _ (@z0H _ _ _ _ _ _ _ _ _ _ z0m z0w (@z0l _ _ _ _ _ _ _ _ _ z0k z0A (pv 5) (@z08 _ _ _ _ (@z04 _ _ _ _ _)) (fun _ _=>rfl)) (@z08 _ _ _ _ (@z04 _ _ _ _ _))) (@z02 _ _ _ _ _ _ (@z0H _ _ _ _ _ _ _ _ _ _ z0m z0w (@z0H _ _ _ _ _ _ _ _ _ _ z37 z39 (@z0l _ _ _ _ _ _ _ _ _ z0k z0A (pv 5) (@z08 _ _ _ _ (@z04 _ _ _ _ _)) (fun _ _=>rfl)) (@z08 _ _ _ _ (@z0l _ _ _ _ _ _ _ _ _ z0k z0A (pv 1) (@z08 _ _ _ _ (@z04 _ _ _ _ _)) (fun _ _=>rfl)))) (@z0a _ _ _ _ (pv 8))) (@z02 _ _ _ _ _ _ (@z0H _ _ _ _ _ _ _ _ _ _ z0m z0w (@z0H _ _ _ _ _ _ _ _ _ _ z37 z39 (@z0l _ _ _ _ _ _ _ _ _ z0k z0A (pv 5) (@z08 _ _ _ _ (@z04 _ _ _ _ _)) (fun _ _=>rfl)) (@z08 _ _ _ _ (@z0l _ _ _ _ _ _ _ _ _ z0k z0A (pv 1) (@z08 _ _ _ _ (@z04 _ _ _ _ _)) (fun _ _=>rfl)))) (@z0a _ _ _ _ (pv 9))) (@z0s _ _) (by rfl)) (by rfl)) (by rfl)) (by decide)) rfl (Or.inl rfl))
    ·exact z1j
  refine (@z0e _ _ _ _ ?_)
  refine (@z0u _ _ _ _ _ ?_)
  exact (@z0G _ _ _ _ _ _ (@z02 _ _ _ _ _ _ (@z01 _ _ _ _ (pv 3)) (@z02 _ _ _ _ _ _ (@z01 _ _ _ _ (pv 4)) (@z02 _ _ _ _ _ _ (@z01 _ _ _ _ (pv 5)) (@z0s _ _) (by rfl)) (by rfl)) (by rfl)) (by decide))) fun ss y h=>z0B h
/-! ### way_place -/
abbrev B5_:DS:=dSeq (dAsg (eD (.int 0)) (gNm [] 2)) (dSeq (dAsg (eD (.int 0)) (gNm [] 3)) (dSeq (dFor (iSq (eC1 z5S (bVar 1))) (gTp 3 (z0i (gNm [] 4) (z0i (gNm [] 5) (z0i (gNm [] 6) z1F)))) (dSeq (dAsg (eOp pAdd (eOpF z2g 2 (bOf (eOpF pIx 0 (bOf (eD (.int 0)))))) (bVar 4)) (gNm [] 2)) (dAsg (eOp pAdd (eOpF z2g 3 (bOf (eOpF pIx 0 (bOf (eD (.int 1)))))) (bVar 5)) (gNm [] 3)))) (dRet (eTup (z09 (eC1 pLen (bVar 1)) (z09 (eVar 2) (z09 (eVar 3) aNil)))))))
def z4v:DS:=(B5_)
def z1O:DF:=gOf [] 7 z4v
theorem z3P:z1N z1O:=z0o
theorem sc_way_place:FnScope ["rule","way","row","column","i","j","lesser"] ["rule","way"] (z06 z2y):=⟨rfl,rfl,rfl,by decide +kernel,rfl,by decide +kernel,by decide +kernel⟩
theorem z82 {P:Program} {w:World} {K:PySem.W.Frag} {mg:Str→Option Value} {base:Heap} {f:Addr} {fd:FuncData} (F:Fun K "way_place" "way_place" z2y f fd) (hm:mg "way_place" = some (.ref f)) (hb:Binds K fd ["rule","way"] []) (T:Txt K mg):KFn P w K mg base 1 "way_place" 2 z1O :=
 z15 (np:=[]) (fb:=z4v) F hm hb sc_way_place (fun c cdv A outer s H E hr hnp=>by
  have hq:=z22 hr
  refine (@z03 _ _ _ _ _ _ ?_ ?_)
  ·exact (@z0g _ _ _ _ _ _ ([]) (2) _ hnp sc_way_place.nd rfl (by first | exact Or.inl rfl | exact Or.inr rfl) (@z04 _ _ _ _ _) rfl (Or.inl rfl))
  refine (@z03 _ _ _ _ _ _ ?_ ?_)
  ·exact (@z0g _ _ _ _ _ _ ([]) (3) _ hnp sc_way_place.nd rfl (by first | exact Or.inl rfl | exact Or.inr rfl) (@z04 _ _ _ _ _) rfl (Or.inl rfl))
  refine (@z03 _ _ _ _ _ _ ?_ ?_)
  ·refine (@z2O _ _ _ _ _ _ _ _ _ PassesOwn.never rfl ?_ ?_ ?_ (by intro _; rfl))
   ·exact (@z3q _ _ _ _ _ (@za7 _ _ _ _ _ _ _ (@z0a _ _ _ _ (pv 1)) (@z8b _ _ _ _)))
   ·exact (@z4C _ _ _ _ _ _ _ rfl (@z0D _ _ _ _ _ _ (@z0t _ _ _ ([]) (4) _ hnp sc_way_place.nd rfl (by first | exact Or.inl rfl | exact Or.inr rfl) (Or.inl rfl)) (@z0D _ _ _ _ _ _ (@z0t _ _ _ ([]) (5) _ hnp sc_way_place.nd rfl (by first | exact Or.inl rfl | exact Or.inr rfl) (Or.inl rfl)) (@z0D _ _ _ _ _ _ (@z0t _ _ _ ([]) (6) _ hnp sc_way_place.nd rfl (by first | exact Or.inl rfl | exact Or.inr rfl) (Or.inl rfl)) (@z3B _ _) (by rfl)) (by rfl)) (by rfl)) (by rfl) (by rfl))
   ·refine (@z03 _ _ _ _ _ _ ?_ ?_)
    ·exact (@z0g _ _ _ _ _ _ ([]) (2) _ hnp sc_way_place.nd rfl (by first | exact Or.inl rfl | exact Or.inr rfl) (@z0H _ _ _ _ _ _ _ _ _ _ z0m z0w (@z0E _ _ _ _ _ _ _ _ _ _ z37 z39 (pv 2) (@z08 _ _ _ _ (@z0l _ _ _ _ _ _ _ _ _ z0k z0A (pv 0) (@z08 _ _ _ _ (@z04 _ _ _ _ _)) (fun _ _=>rfl)))) (@z0a _ _ _ _ (pv 4))) rfl (Or.inl rfl))
    refine (@z0e _ _ _ _ ?_)
    exact (@z0g _ _ _ _ _ _ ([]) (3) _ hnp sc_way_place.nd rfl (by first | exact Or.inl rfl | exact Or.inr rfl) (@z0H _ _ _ _ _ _ _ _ _ _ z0m z0w (@z0E _ _ _ _ _ _ _ _ _ _ z37 z39 (pv 3) (@z08 _ _ _ _ (@z0l _ _ _ _ _ _ _ _ _ z0k z0A (pv 0) (@z08 _ _ _ _ (@z04 _ _ _ _ _)) (fun _ _=>rfl)))) (@z0a _ _ _ _ (pv 5))) rfl (Or.inl rfl))
  refine (@z0e _ _ _ _ ?_)
  refine (@z0u _ _ _ _ _ ?_)
  exact (@z0G _ _ _ _ _ _ (@z02 _ _ _ _ _ _ (@z13 _ _ _ _ _ _ rfl T.z_len (@z0a _ _ _ _ (pv 1)) (by rfl)) (@z02 _ _ _ _ _ _ (@z01 _ _ _ _ (pv 2)) (@z02 _ _ _ _ _ _ (@z01 _ _ _ _ (pv 3)) (@z0s _ _) (by rfl)) (by rfl)) (by rfl)) (by decide))) fun ss y h=>z0B h
/-! ### letters_good -/
def z3t:DS:=(dSeq (dIf (dOr (dNot (dTr (eIsi "str" (bVar 0)))) (dNot (dTr (z3A pLe pLe (eD (.int 1)) (eC1 pLen (bVar 0)) (bVar 1))))) (dRet (eD (.bl false))) z0N) (dRet (eC1 pAll (bOf (z28 [2] (iSq (eVar 0)) (gNm [] 2) dYes (z3A pLe pLe (eD (.str [97])) (eVar 2) (bOf (eD (.str [122])))))))))
def z0Q:DF:=gOf [] 3 z3t
theorem z4S:z1N z0Q:=z0o
theorem sc_letters_good:FnScope ["thing","most","sign"] ["thing","most"] (z06 z1V):=⟨rfl,rfl,rfl,by decide +kernel,rfl,by decide +kernel,by decide +kernel⟩
theorem z5W {P:Program} {w:World} {K:PySem.W.Frag} {mg:Str→Option Value} {base:Heap} {f:Addr} {fd:FuncData} (F:Fun K "letters_good" "letters_good" z1V f fd) (hm:mg "letters_good" = some (.ref f)) (hb:Binds K fd ["thing","most"] []) (T:Txt K mg):KFn P w K mg base 1 "letters_good" 2 z0Q :=
 z15 (np:=[]) (fb:=z3t) F hm hb sc_letters_good (fun c cdv A outer s H E hr hnp=>by
  have hq:=z22 hr
  refine (@z03 _ _ _ _ _ _ ?_ ?_)
  ·refine (@z2b _ _ _ _ _ _ _ _ _ ?_ ?_ ?_)
   ·exact (@z4b _ _ _ _ (@z3v _ _ _ _ _ _ _ _ (@z1i _ _ _ _ _ (@z1G _ _ _ _ (@z36 _ _ _ _ _ _ _ _ _ T.ty_str rfl T.z_isinstance rfl T.z_str boot_str (@z0a _ _ _ _ (pv 0)) (by decide) (by decide) (by rfl) (by rfl)) (by intro _; rfl))) (@z35 _ _ _ _ _ (@z1i _ _ _ _ _ (@z5z _ _ _ _ _ _ _ _ _ _ _ _ _ _ _ z4h z4h z3l z3l (@z04 _ _ _ _ _) (@z13 _ _ _ _ _ _ rfl T.z_len (@z0a _ _ _ _ (pv 0)) (by rfl)) (@z0a _ _ _ _ (pv 1)) (by with_unfolding_all rfl))))))
   ·refine (@z0e _ _ _ _ ?_)
    refine (@z0u _ _ _ _ _ ?_)
    exact (@z30 _ _ _ _ _)
   ·exact z1j
  refine (@z0e _ _ _ _ ?_)
  refine (@z0u _ _ _ _ _ ?_)
  exact (@z7P _ _ _ _ _ _ rfl rfl T.z_all (@z08 _ _ _ _ (@z2U _ _ ([2]) _ _ _ _ _ _ _ _ _ _ rfl (@z1o _ _ _ rfl rfl) (@z3q _ _ _ _ _ (@z01 _ _ _ _ (pv 0))) (fun l s0 H0 ex=>(@z1K _ _ _ _ ([]) (2) _ hnp sc_letters_good.nd rfl (by first | exact Or.inl rfl | exact Or.inr rfl) (by first | exact Or.inl rfl | exact Or.inr rfl) (by decide))) (fun l s0 H0 ex=>(@z2r _ _)) (fun l s0 H0 ex=>(@zbv _ _ _ _ _ _ _ _ _ _ _ _ _ _ _ z4h z4h z3l z3l (@z6E _ _ _ _ _ [97] (by decide +kernel)) (@z01 _ _ _ _ (pv 2)) (@z08 _ _ _ _ (@z6E _ _ _ _ _ [122] (by decide +kernel))) (by with_unfolding_all rfl))) (z3m hnp rfl) (by intro _; rfl))) (by rfl))) fun ss y h=>z0B h
/-! ### floor_good -/
def z42:DS:=(dSeq (dIf (dOr (dNot (dTr (eIsi "tuple" (bVar 0)))) (dNot (dTr (z3A pLe pLe (eD (.int 1)) (eC1 pLen (bVar 0)) (bOf (eD (.int 64))))))) (dRet (eD (.bl false))) z0N) (dSeq (dFor (iSq (eVar 0)) (gNm [] 1) (dIf (dOr (dNot (dTr (z05 z0Q [.val (eVar 1),.val (eD (.int 64))]))) (dTr (eOp pNe (eC1 pLen (bVar 1)) (bOf (eC1 pLen (bOf (eOpF pIx 0 (bOf (eD (.int 0)))))))))) (dRet (eD (.bl false))) z0N)) (dRet (eD (.bl true)))))
def z1I:DF:=gOf [] 2 z42
theorem z5u:z1N z1I:=z0o
theorem sc_floor_good:FnScope ["thing","row"] ["thing"] (z06 z2l):=⟨rfl,rfl,rfl,by decide +kernel,rfl,by decide +kernel,by decide +kernel⟩
theorem z7d {P:Program} {w:World} {K:PySem.W.Frag} {mg:Str→Option Value} {base:Heap} {f:Addr} {fd:FuncData} (F:Fun K "floor_good" "floor_good" z2l f fd) (hm:mg "floor_good" = some (.ref f)) (hb:Binds K fd ["thing"] []) (T:Txt K mg) (k_letters_good:KFn P w K mg base 1 "letters_good" 2 z0Q):KFn P w K mg base 2 "floor_good" 1 z1I :=
 z15 (np:=[]) (fb:=z42) F hm hb sc_floor_good (fun c cdv A outer s H E hr hnp=>by
  have hq:=z22 hr
  refine (@z03 _ _ _ _ _ _ ?_ ?_)
  ·refine (@z2b _ _ _ _ _ _ _ _ _ ?_ ?_ ?_)
   ·exact (@z4b _ _ _ _ (@z3v _ _ _ _ _ _ _ _ (@z1i _ _ _ _ _ (@z1G _ _ _ _ (@z36 _ _ _ _ _ _ _ _ _ T.ty_tuple rfl T.z_isinstance rfl T.z_tuple boot_tuple (@z0a _ _ _ _ (pv 0)) (by decide) (by decide) (by rfl) (by rfl)) (by intro _; rfl))) (@z35 _ _ _ _ _ (@z1i _ _ _ _ _ (@z5z _ _ _ _ _ _ _ _ _ _ _ _ _ _ _ z4h z4h z3l z3l (@z04 _ _ _ _ _) (@z13 _ _ _ _ _ _ rfl T.z_len (@z0a _ _ _ _ (pv 0)) (by rfl)) (@z08 _ _ _ _ (@z4j _ _ _ _ _ rfl T.g_MOST_TILES (by decide))) (by with_unfolding_all rfl))))))
   ·refine (@z0e _ _ _ _ ?_)
    refine (@z0u _ _ _ _ _ ?_)
    exact (@z30 _ _ _ _ _)
   ·exact z1j
  refine (@z03 _ _ _ _ _ _ ?_ ?_)
  ·refine (@z2O _ _ _ _ _ _ _ _ _ PassesOwn.never rfl ?_ ?_ ?_ (by intro _; rfl))
   ·exact (@z3q _ _ _ _ _ (@z01 _ _ _ _ (pv 0)))
   ·exact (@z0t _ _ _ ([]) (1) _ hnp sc_floor_good.nd rfl (by first | exact Or.inl rfl | exact Or.inr rfl) (Or.inl rfl))
   ·refine (@z0e _ _ _ _ ?_)
    refine (@z2b _ _ _ _ _ _ _ _ _ ?_ ?_ ?_)
    ·exact (@z4b _ _ _ _ (@z3v _ _ _ _ _ _ _ _ (@z1i _ _ _ _ _ (@z1G _ _ _ _ (@z0c _ _ _ _ _ (1) _ _ _ _ _ k_letters_good z4S (hr.mono (by decide)) rfl (@z00 _ _ _ _ _ _ (@z01 _ _ _ _ (pv 1)) (@z00 _ _ _ _ _ _ (@z4j _ _ _ _ _ rfl T.g_MOST_TILES (by decide)) (@z0j _ _) (by rfl)) (by rfl)) rfl (by decide) (by rfl) (by rfl)) (by intro _; rfl))) (@z35 _ _ _ _ _ (@z2w _ _ _ _ _ _ _ _ _ _ (z4g hq) z6o (@z13 _ _ _ _ _ _ rfl T.z_len (@z0a _ _ _ _ (pv 1)) (by rfl)) (@z08 _ _ _ _ (@z13 _ _ _ _ _ _ rfl T.z_len (@z08 _ _ _ _ (@z0l _ _ _ _ _ _ _ _ _ z0k z0A (pv 0) (@z08 _ _ _ _ (@z04 _ _ _ _ _)) (fun _ _=>rfl))) (by rfl))) (z1a _)))))
    ·refine (@z0e _ _ _ _ ?_)
     refine (@z0u _ _ _ _ _ ?_)
     exact (@z30 _ _ _ _ _)
    ·exact z1j
  refine (@z0e _ _ _ _ ?_)
  refine (@z0u _ _ _ _ _ ?_)
  exact (@z30 _ _ _ _ _)) fun ss y h=>z0B h
/-! ### whole_from -/
def z3p:DS:=(dRet (eAnd (eIsi "int" (bVar 0)) (eAnd (eNot (eIsi "bool" (bVar 0))) (eOpF pLe 1 (bVar 0)))))
def z1p:DF:=gOf [] 2 z3p
theorem z5t:z1N z1p:=z0o
theorem z6Y:FnScope ["thing","least"] ["thing","least"] (z06 z2i):=⟨rfl,rfl,rfl,by decide +kernel,rfl,by decide +kernel,by decide +kernel⟩
theorem z7a {P:Program} {w:World} {K:PySem.W.Frag} {mg:Str→Option Value} {base:Heap} {f:Addr} {fd:FuncData} (F:Fun K "whole_from" "whole_from" z2i f fd) (hm:mg "whole_from" = some (.ref f)) (hb:Binds K fd ["thing","least"] []) (T:Txt K mg):KFn P w K mg base 1 "whole_from" 2 z1p :=
 z15 (np:=[]) (fb:=z3p) F hm hb z6Y (fun c cdv A outer s H E hr hnp=>by
  have hq:=z22 hr
  refine (@z0e _ _ _ _ ?_)
  refine (@z0u _ _ _ _ _ ?_)
  exact (@z5L _ _ _ _ _ _ _ _ (@z36 _ _ _ _ _ _ _ _ _ T.ty_int rfl T.z_isinstance rfl T.z_int boot_int (@z0a _ _ _ _ (pv 0)) (by decide) (by decide) (by rfl) (by rfl)) (@z5L _ _ _ _ _ _ _ _ (@zc5 _ _ _ _ _ (@z36 _ _ _ _ _ _ _ _ _ T.ty_bool rfl T.z_isinstance rfl T.z_bool boot_bool (@z0a _ _ _ _ (pv 0)) (by decide) (by decide) (by rfl) (by rfl))) (@z7L _ _ _ _ _ _ (@z3N _ _ _ _ _ _ _ _ _ _ z4h z3l (pv 1) (@z0a _ _ _ _ (pv 0)) (z1a _)))))) fun ss y h=>z0B h
/-! ### whole_within -/
def z2L:DS:=(dRet (eAnd (z05 z1p [.val (eVar 0),.val (eVar 1)]) (eOpF pLe 0 (bVar 2))))
def z0p:DF:=gOf [] 3 z2L
theorem z1n:z1N z0p:=z0o
theorem z5M:FnScope ["thing","least","most"] ["thing","least","most"] (z06 z1T):=⟨rfl,rfl,rfl,by decide +kernel,rfl,by decide +kernel,by decide +kernel⟩
theorem z5U {P:Program} {w:World} {K:PySem.W.Frag} {mg:Str→Option Value} {base:Heap} {f:Addr} {fd:FuncData} (F:Fun K "whole_within" "whole_within" z1T f fd) (hm:mg "whole_within" = some (.ref f)) (hb:Binds K fd ["thing","least","most"] []) (T:Txt K mg) (k_whole_from:KFn P w K mg base 1 "whole_from" 2 z1p):KFn P w K mg base 2 "whole_within" 3 z0p :=
 z15 (np:=[]) (fb:=z2L) F hm hb z5M (fun c cdv A outer s H E hr hnp=>by
  have hq:=z22 hr
  refine (@z0e _ _ _ _ ?_)
  refine (@z0u _ _ _ _ _ ?_)
  exact (@z5L _ _ _ _ _ _ _ _ (@z0c _ _ _ _ _ (1) _ _ _ _ _ k_whole_from z5t (hr.mono (by decide)) rfl (@z00 _ _ _ _ _ _ (@z01 _ _ _ _ (pv 0)) (@z00 _ _ _ _ _ _ (@z01 _ _ _ _ (pv 1)) (@z0j _ _) (by rfl)) (by rfl)) rfl (by decide) (by rfl) (by rfl)) (@z7L _ _ _ _ _ _ (@z3N _ _ _ _ _ _ _ _ _ _ z4h z3l (pv 0) (@z0a _ _ _ _ (pv 2)) (z1a _))))) fun ss y h=>z0B h
/-! ### blocks_needed -/
def z3f:DS:=(dRet (eOp pAdd (eOp pDiv (eOp pSub (eOpF pAdd 0 (bVar 1)) (bOf (eD (.int 1)))) (bVar 2)) (bOf (eD (.int 1)))))
def z0L:DF:=gOf [] 3 z3f
theorem z3b:z1N z0L:=z0o
theorem z5m:FnScope ["offset","size","factor"] ["offset","size","factor"] (z06 z1z):=⟨rfl,rfl,rfl,by decide +kernel,rfl,by decide +kernel,by decide +kernel⟩
theorem z5o {P:Program} {w:World} {K:PySem.W.Frag} {mg:Str→Option Value} {base:Heap} {f:Addr} {fd:FuncData} (F:Fun K "blocks_needed" "blocks_needed" z1z f fd) (hm:mg "blocks_needed" = some (.ref f)) (hb:Binds K fd ["offset","size","factor"] []) (T:Txt K mg):KFn P w K mg base 1 "blocks_needed" 3 z0L :=
 z15 (np:=[]) (fb:=z3f) F hm hb z5m (fun c cdv A outer s H E hr hnp=>by
  have hq:=z22 hr
  refine (@z0e _ _ _ _ ?_)
  refine (@z0u _ _ _ _ _ ?_)
  exact (@z0H _ _ _ _ _ _ _ _ _ _ z0m z0w (@z0H _ _ _ _ _ _ _ _ _ _ z4l z5Z (@z0H _ _ _ _ _ _ _ _ _ _ z1R z1S (@z0E _ _ _ _ _ _ _ _ _ _ z0m z0w (pv 0) (@z0a _ _ _ _ (pv 1))) (@z08 _ _ _ _ (@z04 _ _ _ _ _))) (@z0a _ _ _ _ (pv 2))) (@z08 _ _ _ _ (@z04 _ _ _ _ _)))) fun ss y h=>z0B h
/-! ### cut_floor -/
def z3F:DS:=(dRet (eC1 z1Q (bOf (z28 [5] (iSq (eSlN 0 (z19 (eVar 1)) (z19 (eOpF pAdd 1 (bVar 3))))) (gNm [] 5) dYes (eSlN 5 (z19 (eVar 2)) (z19 (eOpF pAdd 2 (bVar 4))))))))
def z18:DF:=gOf [] 6 z3F
theorem z3R:z1N z18:=z0o
theorem sc_cut_floor:FnScope ["floor","row","column","rows","columns","tiles"] ["floor","row","column","rows","columns"] (z06 z2A):=⟨rfl,rfl,rfl,by decide +kernel,rfl,by decide +kernel,by decide +kernel⟩
theorem z84 {P:Program} {w:World} {K:PySem.W.Frag} {mg:Str→Option Value} {base:Heap} {f:Addr} {fd:FuncData} (F:Fun K "cut_floor" "cut_floor" z2A f fd) (hm:mg "cut_floor" = some (.ref f)) (hb:Binds K fd ["floor","row","column","rows","columns"] []) (T:Txt K mg):KFn P w K mg base 1 "cut_floor" 5 z18 :=
 z15 (np:=[]) (fb:=z3F) F hm hb sc_cut_floor (fun c cdv A outer s H E hr hnp=>by
  have hq:=z22 hr
  refine (@z0e _ _ _ _ ?_)
  refine (@z0u _ _ _ _ _ ?_)
  exact (@z3j _ _ _ _ _ _ rfl T.z_tuple (@z08 _ _ _ _ (@z2U _ _ ([5]) _ _ _ _ _ _ _ _ _ _ rfl (@z1o _ _ _ rfl rfl) (@z3q _ _ _ _ _ (@z3x _ _ _ _ _ _ _ _ _ _ (pv 0) (@z1x _ _ _ _ (@z01 _ _ _ _ (pv 1))) (@z1x _ _ _ _ (@z0E _ _ _ _ _ _ _ _ _ _ z0m z0w (pv 1) (@z0a _ _ _ _ (pv 3)))))) (fun l s0 H0 ex=>(@z1K _ _ _ _ ([]) (5) _ hnp sc_cut_floor.nd rfl (by first | exact Or.inl rfl | exact Or.inr rfl) (by first | exact Or.inl rfl | exact Or.inr rfl) (by decide))) (fun l s0 H0 ex=>(@z2r _ _)) (fun l s0 H0 ex=>(@z3x _ _ _ _ _ _ _ _ _ _ (pv 5) (@z1x _ _ _ _ (@z01 _ _ _ _ (pv 2))) (@z1x _ _ _ _ (@z0E _ _ _ _ _ _ _ _ _ _ z0m z0w (pv 2) (@z0a _ _ _ _ (pv 4)))))) (z3m hnp rfl) (by intro _; rfl))) (by rfl))) fun ss y h=>z0B h
/-! ### laid_floor -/
def z40:DS:=(dSeq (dAsg (eLst aNil) (gNm [] 3)) (dSeq (dFor (iSq (eVar 2)) (gNm [] 4) (dFor (z0S (eVar 1)) (gNm [] 5) (z0W 3 (eC1 (z2t []) (bOf (z28 [6] (iSq (eVar 4)) (gNm [] 6) dYes (eOp pIx (eOpF pIxX 0 (bVar 6)) (bVar 5)))))))) (dRet (eC1 z1Q (bVar 3)))))
def z0X:DF:=gOf [] 7 z40
theorem z3J:z1N z0X:=z0o
theorem sc_laid_floor:FnScope ["block_of","high","floor","rows","row","line","tile"] ["block_of","high","floor"] (z06 z2j):=⟨rfl,rfl,rfl,by decide +kernel,rfl,by decide +kernel,by decide +kernel⟩
theorem z7b {P:Program} {w:World} {K:PySem.W.Frag} {mg:Str→Option Value} {base:Heap} {f:Addr} {fd:FuncData} (F:Fun K "laid_floor" "laid_floor" z2j f fd) (hm:mg "laid_floor" = some (.ref f)) (hb:Binds K fd ["block_of","high","floor"] []) (T:Txt K mg):KFn P w K mg base 1 "laid_floor" 3 z0X :=
 z15 (np:=[]) (fb:=z40) F hm hb sc_laid_floor (fun c cdv A outer s H E hr hnp=>by
  have hq:=z22 hr
  refine (@z03 _ _ _ _ _ _ ?_ ?_)
  ·exact (@z0g _ _ _ _ _ _ ([]) (3) _ hnp sc_laid_floor.nd rfl (by first | exact Or.inl rfl | exact Or.inr rfl) (@z2Z _ _ _ _ _ (@z0s _ _) (by decide)) rfl (Or.inl rfl))
  refine (@z03 _ _ _ _ _ _ ?_ ?_)
  ·refine (@z2O _ _ _ _ _ _ _ _ _ PassesOwn.never rfl ?_ ?_ ?_ (by intro _; rfl))
   ·exact (@z3q _ _ _ _ _ (@z01 _ _ _ _ (pv 2)))
   ·exact (@z0t _ _ _ ([]) (4) _ hnp sc_laid_floor.nd rfl (by first | exact Or.inl rfl | exact Or.inr rfl) (Or.inl rfl))
   ·refine (@z0e _ _ _ _ ?_)
    refine (@z2O _ _ _ _ _ _ _ _ _ PassesOwn.never rfl ?_ ?_ ?_ (by intro _; rfl))
    ·exact (@z2c _ _ _ _ _ _ _ rfl T.z_range (@z01 _ _ _ _ (pv 1)) (by rfl))
    ·exact (@z0t _ _ _ ([]) (5) _ hnp sc_laid_floor.nd rfl (by first | exact Or.inl rfl | exact Or.inr rfl) (Or.inl rfl))
    ·refine (@z0e _ _ _ _ ?_)
     exact (@z3w _ _ _ _ _ _ _ _ _ (pv 3) (@z5K _ _ _ _ _ _ _ _ _ [] (@z08 _ _ _ _ (@z2U _ _ ([6]) _ _ _ _ _ _ _ _ _ _ rfl (@z1o _ _ _ rfl rfl) (@z3q _ _ _ _ _ (@z01 _ _ _ _ (pv 4))) (fun l s0 H0 ex=>(@z1K _ _ _ _ ([]) (6) _ hnp sc_laid_floor.nd rfl (by first | exact Or.inl rfl | exact Or.inr rfl) (by first | exact Or.inl rfl | exact Or.inr rfl) (by decide))) (fun l s0 H0 ex=>(@z2r _ _)) (fun l s0 H0 ex=>(@zcI _ _ _ _ _ _ _ _ _ z0k z0A (@z0l _ _ _ _ _ _ _ _ _ (ix_X hq) zce (pv 0) (@z0a _ _ _ _ (pv 6)) (fun _ _=>rfl)) (@z0a _ _ _ _ (pv 5)) (fun _ _=>rfl))) (z3m hnp rfl) (by intro _; rfl))) (by decide +kernel) (by rfl) (by rfl) (by rfl) (by rfl)) (by rfl) (by rfl) (by rfl) (by rfl) (by rfl))
  refine (@z0e _ _ _ _ ?_)
  refine (@z0u _ _ _ _ _ ?_)
  exact (@z3j _ _ _ _ _ _ rfl T.z_tuple (@z0a _ _ _ _ (pv 3)) (by rfl))) fun ss y h=>z0B h
/-! ### tiles_known -/
def z3E:DS:=(dRet (eC1 pAll (bOf (z28 [2] (iSq (eC1 (z2t []) (bVar 1))) (gNm [] 2) dYes (eOp (pIn false) (eVar 2) (bVar 0))))))
def z1q:DF:=gOf [] 3 z3E
theorem z5b:z1N z1q:=z0o
theorem sc_tiles_known:FnScope ["block_of","floor","tile"] ["block_of","floor"] (z06 z24):=⟨rfl,rfl,rfl,by decide +kernel,rfl,by decide +kernel,by decide +kernel⟩
theorem z6k {P:Program} {w:World} {K:PySem.W.Frag} {mg:Str→Option Value} {base:Heap} {f:Addr} {fd:FuncData} (F:Fun K "tiles_known" "tiles_known" z24 f fd) (hm:mg "tiles_known" = some (.ref f)) (hb:Binds K fd ["block_of","floor"] []) (T:Txt K mg):KFn P w K mg base 1 "tiles_known" 2 z1q :=
 z15 (np:=[]) (fb:=z3E) F hm hb sc_tiles_known (fun c cdv A outer s H E hr hnp=>by
  have hq:=z22 hr
  refine (@z0e _ _ _ _ ?_)
  refine (@z0u _ _ _ _ _ ?_)
  exact (@z7P _ _ _ _ _ _ rfl rfl T.z_all (@z08 _ _ _ _ (@z2U _ _ ([2]) _ _ _ _ _ _ _ _ _ _ rfl (@z1o _ _ _ rfl rfl) (@z3q _ _ _ _ _ (@z5K _ _ _ _ _ _ _ _ _ [] (@z0a _ _ _ _ (pv 1)) (by decide +kernel) (by rfl) (by rfl) (by rfl) (by rfl))) (fun l s0 H0 ex=>(@z1K _ _ _ _ ([]) (2) _ hnp sc_tiles_known.nd rfl (by first | exact Or.inl rfl | exact Or.inr rfl) (by first | exact Or.inl rfl | exact Or.inr rfl) (by decide))) (fun l s0 H0 ex=>(@z2r _ _)) (fun l s0 H0 ex=>(@z7O _ _ _ _ _ _ _ _ _ _ (@z9b _ hq) (@z7h _ false) (@z01 _ _ _ _ (pv 2)) (@z0a _ _ _ _ (pv 0)) rfl)) (z3m hnp rfl) (by intro _; rfl))) (by rfl))) fun ss y h=>z0B h
/-! ### cutting_holds -/
def z3e:DS:=(dSeq (dIf (dOr (dNot (dTr (eIsi "tuple" (bVar 2)))) (dTr (eOp pNe (eC1 pLen (bVar 2)) (bOf (eD (.int 3)))))) (dRet (eD (.bl false))) z0N) (dSeq (dAsg (eVar 0) (gTp 3 (z0i (gNm [] 3) (z0i (gNm [] 4) (z0i (gNm [] 5) z1F))))) (dSeq (dAsg (eVar 2) (gTp 3 (z0i (gNm [] 6) (z0i (gNm [] 7) (z0i (gNm [] 8) z1F))))) (dSeq (dIf (dOr (dNot (dTr (z05 z0p [.val (eVar 6),.val (eD (.int 0)),.val (eOpF pSub 3 (bOf (eD (.int 1))))]))) (dOr (dNot (dTr (z05 z0p [.val (eVar 7),.val (eD (.int 0)),.val (eOpF pSub 4 (bOf (eD (.int 1))))]))) (dNot (dTr (z05 z1I [.val (eVar 8)]))))) (dRet (eD (.bl false))) z0N) (dSeq (dAsg (eC1 pLen (bVar 1)) (gNm [] 9)) (dSeq (dAsg (eC1 pLen (bOf (eOpF pIx 1 (bOf (eD (.int 0)))))) (gNm [] 10)) (dSeq (dIf (dOr (dTr (eOp pNe (eC1 pLen (bVar 8)) (bOf (z05 z0L [.val (eVar 6),.val (eVar 9),.val (eVar 3)])))) (dTr (eOp pNe (eC1 pLen (bOf (eOpF pIx 8 (bOf (eD (.int 0)))))) (bOf (z05 z0L [.val (eVar 7),.val (eVar 10),.val (eVar 4)]))))) (dRet (eD (.bl false))) z0N) (dSeq (dAsg (eC1 z2E (bVar 5)) (gNm [] 11)) (dRet (eAnd (z05 z1q [.val (eVar 11),.val (eVar 8)]) (eOp pEq (z05 z18 [.val (z05 z0X [.val (eVar 11),.val (eVar 3),.val (eVar 8)]),.val (eVar 6),.val (eVar 7),.val (eVar 9),.val (eVar 10)]) (bVar 1))))))))))))
def z0Y:DF:=gOf [] 12 z3e
theorem z4o:z1N z0Y:=z0o
theorem sc_cutting_holds:FnScope ["rule","floor","thing","high","wide","blocks","i","j","lesser","rows","columns","block_of"] ["rule","floor","thing"] (z06 z1y):=⟨rfl,rfl,rfl,by decide +kernel,rfl,by decide +kernel,by decide +kernel⟩
theorem z5n {P:Program} {w:World} {K:PySem.W.Frag} {mg:Str→Option Value} {base:Heap} {f:Addr} {fd:FuncData} (F:Fun K "cutting_holds" "cutting_holds" z1y f fd) (hm:mg "cutting_holds" = some (.ref f)) (hb:Binds K fd ["rule","floor","thing"] []) (T:Txt K mg) (k_floor_good:KFn P w K mg base 2 "floor_good" 1 z1I) (k_whole_within:KFn P w K mg base 2 "whole_within" 3 z0p) (k_blocks_needed:KFn P w K mg base 1 "blocks_needed" 3 z0L) (k_cut_floor:KFn P w K mg base 1 "cut_floor" 5 z18) (k_laid_floor:KFn P w K mg base 1 "laid_floor" 3 z0X) (k_tiles_known:KFn P w K mg base 1 "tiles_known" 2 z1q):KFn P w K mg base 3 "cutting_holds" 3 z0Y :=
 z15 (np:=[]) (fb:=z3e) F hm hb sc_cutting_holds (fun c cdv A outer s H E hr hnp=>by
  have hq:=z22 hr
  refine (@z03 _ _ _ _ _ _ ?_ ?_)
  ·refine (@z2b _ _ _ _ _ _ _ _ _ ?_ ?_ ?_)
   ·exact (@z4b _ _ _ _ (@z3v _ _ _ _ _ _ _ _ (@z1i _ _ _ _ _ (@z1G _ _ _ _ (@z36 _ _ _ _ _ _ _ _ _ T.ty_tuple rfl T.z_isinstance rfl T.z_tuple boot_tuple (@z0a _ _ _ _ (pv 2)) (by decide) (by decide) (by rfl) (by rfl)) (by intro _; rfl))) (@z35 _ _ _ _ _ (@z2w _ _ _ _ _ _ _ _ _ _ (z4g hq) z6o (@z13 _ _ _ _ _ _ rfl T.z_len (@z0a _ _ _ _ (pv 2)) (by rfl)) (@z08 _ _ _ _ (@z04 _ _ _ _ _)) (z1a _)))))
   ·refine (@z0e _ _ _ _ ?_)
    refine (@z0u _ _ _ _ _ ?_)
    exact (@z30 _ _ _ _ _)
   ·exact z1j
  refine (@z03 _ _ _ _ _ _ ?_ ?_)
  ·refine (@z5h _ _ _ _ _ _ _ ?_ ?_ (by rfl) (by rfl) (by rfl))
   ·exact (@z01 _ _ _ _ (pv 0))
   ·exact (@z4C _ _ _ _ _ _ _ rfl (@z0D _ _ _ _ _ _ (@z0t _ _ _ ([]) (3) _ hnp sc_cutting_holds.nd rfl (by first | exact Or.inl rfl | exact Or.inr rfl) (Or.inl rfl)) (@z0D _ _ _ _ _ _ (@z0t _ _ _ ([]) (4) _ hnp sc_cutting_holds.nd rfl (by first | exact Or.inl rfl | exact Or.inr rfl) (Or.inl rfl)) (@z0D _ _ _ _ _ _ (@z0t _ _ _ ([]) (5) _ hnp sc_cutting_holds.nd rfl (by first | exact Or.inl rfl | exact Or.inr rfl) (Or.inl rfl)) (@z3B _ _) (by rfl)) (by rfl)) (by rfl)) (by rfl) (by rfl))
  refine (@z03 _ _ _ _ _ _ ?_ ?_)
  ·refine (@z5h _ _ _ _ _ _ _ ?_ ?_ (by rfl) (by rfl) (by rfl))
   ·exact (@z01 _ _ _ _ (pv 2))
   ·exact (@z4C _ _ _ _ _ _ _ rfl (@z0D _ _ _ _ _ _ (@z0t _ _ _ ([]) (6) _ hnp sc_cutting_holds.nd rfl (by first | exact Or.inl rfl | exact Or.inr rfl) (Or.inl rfl)) (@z0D _ _ _ _ _ _ (@z0t _ _ _ ([]) (7) _ hnp sc_cutting_holds.nd rfl (by first | exact Or.inl rfl | exact Or.inr rfl) (Or.inl rfl)) (@z0D _ _ _ _ _ _ (@z0t _ _ _ ([]) (8) _ hnp sc_cutting_holds.nd rfl (by first | exact Or.inl rfl | exact Or.inr rfl) (Or.inl rfl)) (@z3B _ _) (by rfl)) (by rfl)) (by rfl)) (by rfl) (by rfl))
  refine (@z03 _ _ _ _ _ _ ?_ ?_)
  ·refine (@z2b _ _ _ _ _ _ _ _ _ ?_ ?_ ?_)
   ·exact (@z4b _ _ _ _ (@z3v _ _ _ _ _ _ _ _ (@z1i _ _ _ _ _ (@z1G _ _ _ _ (@z0c _ _ _ _ _ (2) _ _ _ _ _ k_whole_within z1n (hr.mono (by decide)) rfl (@z00 _ _ _ _ _ _ (@z01 _ _ _ _ (pv 6)) (@z00 _ _ _ _ _ _ (@z04 _ _ _ _ _) (@z00 _ _ _ _ _ _ (@z0E _ _ _ _ _ _ _ _ _ _ z1R z1S (pv 3) (@z08 _ _ _ _ (@z04 _ _ _ _ _))) (@z0j _ _) (by rfl)) (by rfl)) (by rfl)) rfl (by decide) (by rfl) (by rfl)) (by intro _; rfl))) (@z3v _ _ _ _ _ _ _ _ (@z1i _ _ _ _ _ (@z1G _ _ _ _ (@z0c _ _ _ _ _ (2) _ _ _ _ _ k_whole_within z1n (hr.mono (by decide)) rfl (@z00 _ _ _ _ _ _ (@z01 _ _ _ _ (pv 7)) (@z00 _ _ _ _ _ _ (@z04 _ _ _ _ _) (@z00 _ _ _ _ _ _ (@z0E _ _ _ _ _ _ _ _ _ _ z1R z1S (pv 4) (@z08 _ _ _ _ (@z04 _ _ _ _ _))) (@z0j _ _) (by rfl)) (by rfl)) (by rfl)) rfl (by decide) (by rfl) (by rfl)) (by intro _; rfl))) (@z35 _ _ _ _ _ (@z1i _ _ _ _ _ (@z1G _ _ _ _ (@z0c _ _ _ _ _ (2) _ _ _ _ _ k_floor_good z5u (hr.mono (by decide)) rfl (@z00 _ _ _ _ _ _ (@z01 _ _ _ _ (pv 8)) (@z0j _ _) (by rfl)) rfl (by decide) (by rfl) (by rfl)) (by intro _; rfl)))))))
   ·refine (@z0e _ _ _ _ ?_)
    refine (@z0u _ _ _ _ _ ?_)
    exact (@z30 _ _ _ _ _)
   ·exact z1j
  refine (@z03 _ _ _ _ _ _ ?_ ?_)
  ·exact (@z0g _ _ _ _ _ _ ([]) (9) _ hnp sc_cutting_holds.nd rfl (by first | exact Or.inl rfl | exact Or.inr rfl) (@z13 _ _ _ _ _ _ rfl T.z_len (@z0a _ _ _ _ (pv 1)) (by rfl)) rfl (Or.inl rfl))
  refine (@z03 _ _ _ _ _ _ ?_ ?_)
  ·exact (@z0g _ _ _ _ _ _ ([]) (10) _ hnp sc_cutting_holds.nd rfl (by first | exact Or.inl rfl | exact Or.inr rfl) (@z13 _ _ _ _ _ _ rfl T.z_len (@z08 _ _ _ _ (@z0l _ _ _ _ _ _ _ _ _ z0k z0A (pv 1) (@z08 _ _ _ _ (@z04 _ _ _ _ _)) (fun _ _=>rfl))) (by rfl)) rfl (Or.inl rfl))
  refine (@z03 _ _ _ _ _ _ ?_ ?_)
  ·refine (@z2b _ _ _ _ _ _ _ _ _ ?_ ?_ ?_)
   ·exact (@z4b _ _ _ _ (@z3v _ _ _ _ _ _ _ _ (@z2w _ _ _ _ _ _ _ _ _ _ (z4g hq) z6o (@z13 _ _ _ _ _ _ rfl T.z_len (@z0a _ _ _ _ (pv 8)) (by rfl)) (@z08 _ _ _ _ (@z0c _ _ _ _ _ (1) _ _ _ _ _ k_blocks_needed z3b (hr.mono (by decide)) rfl (@z00 _ _ _ _ _ _ (@z01 _ _ _ _ (pv 6)) (@z00 _ _ _ _ _ _ (@z01 _ _ _ _ (pv 9)) (@z00 _ _ _ _ _ _ (@z01 _ _ _ _ (pv 3)) (@z0j _ _) (by rfl)) (by rfl)) (by rfl)) rfl (by decide) (by rfl) (by rfl))) (z1a _)) (@z35 _ _ _ _ _ (@z2w _ _ _ _ _ _ _ _ _ _ (z4g hq) z6o (@z13 _ _ _ _ _ _ rfl T.z_len (@z08 _ _ _ _ (@z0l _ _ _ _ _ _ _ _ _ z0k z0A (pv 8) (@z08 _ _ _ _ (@z04 _ _ _ _ _)) (fun _ _=>rfl))) (by rfl)) (@z08 _ _ _ _ (@z0c _ _ _ _ _ (1) _ _ _ _ _ k_blocks_needed z3b (hr.mono (by decide)) rfl (@z00 _ _ _ _ _ _ (@z01 _ _ _ _ (pv 7)) (@z00 _ _ _ _ _ _ (@z01 _ _ _ _ (pv 10)) (@z00 _ _ _ _ _ _ (@z01 _ _ _ _ (pv 4)) (@z0j _ _) (by rfl)) (by rfl)) (by rfl)) rfl (by decide) (by rfl) (by rfl))) (z1a _)))))
   ·refine (@z0e _ _ _ _ ?_)
    refine (@z0u _ _ _ _ _ ?_)
    exact (@z30 _ _ _ _ _)
   ·exact z1j
  refine (@z03 _ _ _ _ _ _ ?_ ?_)
  ·exact (@z0g _ _ _ _ _ _ ([]) (11) _ hnp sc_cutting_holds.nd rfl (by first | exact Or.inl rfl | exact Or.inr rfl) (@z4D _ _ _ _ _ _ rfl rfl T.z_dict (@z0a _ _ _ _ (pv 5)) (by rfl)) rfl (Or.inl rfl))
  refine (@z0e _ _ _ _ ?_)
  refine (@z0u _ _ _ _ _ ?_)
  exact (@z5L _ _ _ _ _ _ _ _ (@z0c _ _ _ _ _ (1) _ _ _ _ _ k_tiles_known z5b (hr.mono (by decide)) rfl (@z00 _ _ _ _ _ _ (@z01 _ _ _ _ (pv 11)) (@z00 _ _ _ _ _ _ (@z01 _ _ _ _ (pv 8)) (@z0j _ _) (by rfl)) (by rfl)) rfl (by decide) (by rfl) (by rfl)) (@z7L _ _ _ _ _ _ (@z7O _ _ _ _ _ _ _ _ _ _ (z3k hq) z4O (@z0c _ _ _ _ _ (1) _ _ _ _ _ k_cut_floor z3R (hr.mono (by decide)) rfl (@z00 _ _ _ _ _ _ (@z0c _ _ _ _ _ (1) _ _ _ _ _ k_laid_floor z3J (hr.mono (by decide)) rfl (@z00 _ _ _ _ _ _ (@z01 _ _ _ _ (pv 11)) (@z00 _ _ _ _ _ _ (@z01 _ _ _ _ (pv 3)) (@z00 _ _ _ _ _ _ (@z01 _ _ _ _ (pv 8)) (@z0j _ _) (by rfl)) (by rfl)) (by rfl)) rfl (by decide) (by rfl) (by rfl)) (@z00 _ _ _ _ _ _ (@z01 _ _ _ _ (pv 6)) (@z00 _ _ _ _ _ _ (@z01 _ _ _ _ (pv 7)) (@z00 _ _ _ _ _ _ (@z01 _ _ _ _ (pv 9)) (@z00 _ _ _ _ _ _ (@z01 _ _ _ _ (pv 10)) (@z0j _ _) (by rfl)) (by rfl)) (by rfl)) (by rfl)) (by rfl)) rfl (by decide) (by rfl) (by rfl)) (@z0a _ _ _ _ (pv 1)) (z1a _))))) fun ss y h=>z0B h
/-! ### way_holds -/
def z4w:DS:=(dSeq (dIf (dNot (dTr (eIsi "tuple" (bVar 3)))) (dRet (eD (.bl false))) z0N) (dSeq (dAsg (eVar 2) (gNm [] 4)) (dSeq (dFor (iSq (eVar 3)) (gNm [] 5) (dSeq (dIf (dNot (dTr (z05 z0Y [.val (eVar 0),.val (eVar 4),.val (eVar 5)]))) (dRet (eD (.bl false))) z0N) (dAsg (eOpF pIx 5 (bOf (eD (.int 2)))) (gNm [] 4)))) (dRet (eOpF pEq 4 (bOf (eTup (z09 (eVar 1) aNil))))))))
def z16:DF:=gOf [] 6 z4w
theorem z3a:z1N z16:=z0o
theorem sc_way_holds:FnScope ["rule","tile","floor","thing","bigger","cutting"] ["rule","tile","floor","thing"] (z06 z2z):=⟨rfl,rfl,rfl,by decide +kernel,rfl,by decide +kernel,by decide +kernel⟩
theorem z83 {P:Program} {w:World} {K:PySem.W.Frag} {mg:Str→Option Value} {base:Heap} {f:Addr} {fd:FuncData} (F:Fun K "way_holds" "way_holds" z2z f fd) (hm:mg "way_holds" = some (.ref f)) (hb:Binds K fd ["rule","tile","floor","thing"] []) (T:Txt K mg) (k_cutting_holds:KFn P w K mg base 3 "cutting_holds" 3 z0Y):KFn P w K mg base 4 "way_holds" 4 z16 :=
 z15 (np:=[]) (fb:=z4w) F hm hb sc_way_holds (fun c cdv A outer s H E hr hnp=>by
  have hq:=z22 hr
  refine (@z03 _ _ _ _ _ _ ?_ ?_)
  ·refine (@z2b _ _ _ _ _ _ _ _ _ ?_ ?_ ?_)
   ·exact (@z1i _ _ _ _ _ (@z1G _ _ _ _ (@z36 _ _ _ _ _ _ _ _ _ T.ty_tuple rfl T.z_isinstance rfl T.z_tuple boot_tuple (@z0a _ _ _ _ (pv 3)) (by decide) (by decide) (by rfl) (by rfl)) (by intro _; rfl)))
   ·refine (@z0e _ _ _ _ ?_)
    refine (@z0u _ _ _ _ _ ?_)
    exact (@z30 _ _ _ _ _)
   ·exact z1j
  refine (@z03 _ _ _ _ _ _ ?_ ?_)
  ·exact (@z0g _ _ _ _ _ _ ([]) (4) _ hnp sc_way_holds.nd rfl (by first | exact Or.inl rfl | exact Or.inr rfl) (@z01 _ _ _ _ (pv 2)) rfl (Or.inl rfl))
  refine (@z03 _ _ _ _ _ _ ?_ ?_)
  ·refine (@z2O _ _ _ _ _ _ _ _ _ PassesOwn.never rfl ?_ ?_ ?_ (by intro _; rfl))
   ·exact (@z3q _ _ _ _ _ (@z01 _ _ _ _ (pv 3)))
   ·exact (@z0t _ _ _ ([]) (5) _ hnp sc_way_holds.nd rfl (by first | exact Or.inl rfl | exact Or.inr rfl) (Or.inl rfl))
   ·refine (@z03 _ _ _ _ _ _ ?_ ?_)
    ·refine (@z2b _ _ _ _ _ _ _ _ _ ?_ ?_ ?_)
     ·exact (@z1i _ _ _ _ _ (@z1G _ _ _ _ (@z0c _ _ _ _ _ (3) _ _ _ _ _ k_cutting_holds z4o (hr.mono (by decide)) rfl (@z00 _ _ _ _ _ _ (@z01 _ _ _ _ (pv 0)) (@z00 _ _ _ _ _ _ (@z01 _ _ _ _ (pv 4)) (@z00 _ _ _ _ _ _ (@z01 _ _ _ _ (pv 5)) (@z0j _ _) (by rfl)) (by rfl)) (by rfl)) rfl (by decide) (by rfl) (by rfl)) (by intro _; rfl)))
     ·refine (@z0e _ _ _ _ ?_)
      refine (@z0u _ _ _ _ _ ?_)
      exact (@z30 _ _ _ _ _)
     ·exact z1j
    refine (@z0e _ _ _ _ ?_)
    exact (@z0g _ _ _ _ _ _ ([]) (4) _ hnp sc_way_holds.nd rfl (by first | exact Or.inl rfl | exact Or.inr rfl) (@z0l _ _ _ _ _ _ _ _ _ z0k z0A (pv 5) (@z08 _ _ _ _ (@z04 _ _ _ _ _)) (fun _ _=>rfl)) rfl (Or.inl rfl))
  refine (@z0e _ _ _ _ ?_)
  refine (@z0u _ _ _ _ _ ?_)
  exact (@z3N _ _ _ _ _ _ _ _ _ _ (z3k hq) z4O (pv 4) (@z08 _ _ _ _ (@z0G _ _ _ _ _ _ (@z02 _ _ _ _ _ _ (@z01 _ _ _ _ (pv 1)) (@z0s _ _) (by rfl)) (by decide))) (z1a _))) fun ss y h=>z0B h
/-! ### refuse_no_tile -/
def z2Y:DS:=(dIf (dOr (dNot (dTr (eIsi "str" (bVar 1)))) (dTr (eOp (pIn true) (eVar 1) (bOf (eC1 z2E (bOf (eOpF pIx 0 (bOf (eD (.int 2)))))))))) z4V z0N)
def z17:DF:=gOf [] 2 z2Y
theorem z4c:z1N z17:=z0o
theorem z53:FnScope ["rule","thing"] ["rule","thing"] (z06 z1k):=⟨rfl,rfl,rfl,by decide +kernel,rfl,by decide +kernel,by decide +kernel⟩
theorem z59 {P:Program} {w:World} {K:PySem.W.Frag} {mg:Str→Option Value} {base:Heap} {f:Addr} {fd:FuncData} (F:Fun K "refuse_no_tile" "refuse_no_tile" z1k f fd) (hm:mg "refuse_no_tile" = some (.ref f)) (hb:Binds K fd ["rule","thing"] []) (T:Txt K mg):KFn P w K mg base 1 "refuse_no_tile" 2 z17 :=
 z15 (np:=[]) (fb:=z2Y) F hm hb z53 (fun c cdv A outer s H E hr hnp=>by
  have hq:=z22 hr
  refine (@z0e _ _ _ _ ?_)
  refine (@z2b _ _ _ _ _ _ _ _ _ ?_ ?_ ?_)
  ·exact (@z4b _ _ _ _ (@z3v _ _ _ _ _ _ _ _ (@z1i _ _ _ _ _ (@z1G _ _ _ _ (@z36 _ _ _ _ _ _ _ _ _ T.ty_str rfl T.z_isinstance rfl T.z_str boot_str (@z0a _ _ _ _ (pv 1)) (by decide) (by decide) (by rfl) (by rfl)) (by intro _; rfl))) (@z35 _ _ _ _ _ (@z2w _ _ _ _ _ _ _ _ _ _ (@z8J _ hq) (@z7h _ true) (@z01 _ _ _ _ (pv 1)) (@z08 _ _ _ _ (@z4D _ _ _ _ _ _ rfl rfl T.z_dict (@z08 _ _ _ _ (@z0l _ _ _ _ _ _ _ _ _ z0k z0A (pv 0) (@z08 _ _ _ _ (@z04 _ _ _ _ _)) (fun _ _=>rfl))) (by rfl))) rfl))))
  ·refine (@z0e _ _ _ _ ?_)
   exact (@z4B _ _ _)
  ·exact z1j) fun ss y h=>z0B h
/-! ### refuse_growings -/
def z2G:DS:=(dIf (dNot (dTr (z05 z0p [.val (eVar 0),.val (eD (.int 0)),.val (eD (.int 60))]))) z4V z0N)
def z0P:DF:=gOf [] 1 z2G
theorem z3Q:z1N z0P:=z0o
theorem z4G:FnScope ["growings"] ["growings"] (z06 z1d):=⟨rfl,rfl,rfl,by decide +kernel,rfl,by decide +kernel,by decide +kernel⟩
theorem z4K {P:Program} {w:World} {K:PySem.W.Frag} {mg:Str→Option Value} {base:Heap} {f:Addr} {fd:FuncData} (F:Fun K "refuse_growings" "refuse_growings" z1d f fd) (hm:mg "refuse_growings" = some (.ref f)) (hb:Binds K fd ["growings"] []) (T:Txt K mg) (k_whole_within:KFn P w K mg base 2 "whole_within" 3 z0p):KFn P w K mg base 3 "refuse_growings" 1 z0P :=
 z15 (np:=[]) (fb:=z2G) F hm hb z4G (fun c cdv A outer s H E hr hnp=>by
  have hq:=z22 hr
  refine (@z0e _ _ _ _ ?_)
  refine (@z2b _ _ _ _ _ _ _ _ _ ?_ ?_ ?_)
  ·exact (@z1i _ _ _ _ _ (@z1G _ _ _ _ (@z0c _ _ _ _ _ (2) _ _ _ _ _ k_whole_within z1n (hr.mono (by decide)) rfl (@z00 _ _ _ _ _ _ (@z01 _ _ _ _ (pv 0)) (@z00 _ _ _ _ _ _ (@z04 _ _ _ _ _) (@z00 _ _ _ _ _ _ (@z4j _ _ _ _ _ rfl T.g_MOST_GROWINGS (by decide)) (@z0j _ _) (by rfl)) (by rfl)) (by rfl)) rfl (by decide) (by rfl) (by rfl)) (by intro _; rfl)))
  ·refine (@z0e _ _ _ _ ?_)
   exact (@z4B _ _ _)
  ·exact z1j) fun ss y h=>z0B h
/-! ### grown_size -/
def z41:DS:=(dSeq (dFor (z0S (eVar 2)) (gNm [] 3) (dAsg (eOpF z2g 0 (bVar 1)) (gNm [] 0))) (dRet (eVar 0)))
def z0z:DF:=gOf [] 4 z41
theorem z1l:z1N z0z:=z0o
theorem sc_grown_size:FnScope ["size","factor","often","growing"] ["size","factor","often"] (z06 z2k):=⟨rfl,rfl,rfl,by decide +kernel,rfl,by decide +kernel,by decide +kernel⟩
theorem z7c {P:Program} {w:World} {K:PySem.W.Frag} {mg:Str→Option Value} {base:Heap} {f:Addr} {fd:FuncData} (F:Fun K "grown_size" "grown_size" z2k f fd) (hm:mg "grown_size" = some (.ref f)) (hb:Binds K fd ["size","factor","often"] []) (T:Txt K mg):KFn P w K mg base 1 "grown_size" 3 z0z :=
 z15 (np:=[]) (fb:=z41) F hm hb sc_grown_size (fun c cdv A outer s H E hr hnp=>by
  have hq:=z22 hr
  refine (@z03 _ _ _ _ _ _ ?_ ?_)
  ·refine (@z2O _ _ _ _ _ _ _ _ _ PassesOwn.never rfl ?_ ?_ ?_ (by intro _; rfl))
   ·exact (@z2c _ _ _ _ _ _ _ rfl T.z_range (@z01 _ _ _ _ (pv 2)) (by rfl))
   ·exact (@z0t _ _ _ ([]) (3) _ hnp sc_grown_size.nd rfl (by first | exact Or.inl rfl | exact Or.inr rfl) (Or.inl rfl))
   ·refine (@z0e _ _ _ _ ?_)
    exact (@z0g _ _ _ _ _ _ ([]) (0) _ hnp sc_grown_size.nd rfl (by first | exact Or.inl rfl | exact Or.inr rfl) (@z0E _ _ _ _ _ _ _ _ _ _ z37 z39 (pv 0) (@z0a _ _ _ _ (pv 1))) rfl (Or.inl rfl))
  refine (@z0e _ _ _ _ ?_)
  refine (@z0u _ _ _ _ _ ?_)
  exact (@z01 _ _ _ _ (pv 0))) fun ss y h=>z0B h
/-! ### refuse_place -/
def z3s:DS:=(dSeq (dIf (dNot (dTr (z05 z0p [.val (eVar 2),.val (eD (.int 0)),.val (eOp pSub (z05 z0z [.val (eD (.int 1)),.val (eOpF pIx 0 (bOf (eD (.int 0)))),.val (eVar 1)]) (bOf (eD (.int 1))))]))) z4V z0N) (dIf (dNot (dTr (z05 z0p [.val (eVar 3),.val (eD (.int 0)),.val (eOp pSub (z05 z0z [.val (eD (.int 1)),.val (eOpF pIx 0 (bOf (eD (.int 1)))),.val (eVar 1)]) (bOf (eD (.int 1))))]))) z4V z0N))
def z1v:DF:=gOf [] 4 z3s
theorem z4R:z1N z1v:=z0o
theorem z5N:FnScope ["rule","growings","row","column"] ["rule","growings","row","column"] (z06 z1U):=⟨rfl,rfl,rfl,by decide +kernel,rfl,by decide +kernel,by decide +kernel⟩
theorem z5V {P:Program} {w:World} {K:PySem.W.Frag} {mg:Str→Option Value} {base:Heap} {f:Addr} {fd:FuncData} (F:Fun K "refuse_place" "refuse_place" z1U f fd) (hm:mg "refuse_place" = some (.ref f)) (hb:Binds K fd ["rule","growings","row","column"] []) (T:Txt K mg) (k_whole_within:KFn P w K mg base 2 "whole_within" 3 z0p) (k_grown_size:KFn P w K mg base 1 "grown_size" 3 z0z):KFn P w K mg base 3 "refuse_place" 4 z1v :=
 z15 (np:=[]) (fb:=z3s) F hm hb z5N (fun c cdv A outer s H E hr hnp=>by
  have hq:=z22 hr
  refine (@z03 _ _ _ _ _ _ ?_ ?_)
  ·refine (@z2b _ _ _ _ _ _ _ _ _ ?_ ?_ ?_)
   ·exact (@z1i _ _ _ _ _ (@z1G _ _ _ _ (@z0c _ _ _ _ _ (2) _ _ _ _ _ k_whole_within z1n (hr.mono (by decide)) rfl (@z00 _ _ _ _ _ _ (@z01 _ _ _ _ (pv 2)) (@z00 _ _ _ _ _ _ (@z04 _ _ _ _ _) (@z00 _ _ _ _ _ _ (@z0H _ _ _ _ _ _ _ _ _ _ z1R z1S (@z0c _ _ _ _ _ (1) _ _ _ _ _ k_grown_size z1l (hr.mono (by decide)) rfl (@z00 _ _ _ _ _ _ (@z04 _ _ _ _ _) (@z00 _ _ _ _ _ _ (@z0l _ _ _ _ _ _ _ _ _ z0k z0A (pv 0) (@z08 _ _ _ _ (@z04 _ _ _ _ _)) (fun _ _=>rfl)) (@z00 _ _ _ _ _ _ (@z01 _ _ _ _ (pv 1)) (@z0j _ _) (by rfl)) (by rfl)) (by rfl)) rfl (by decide) (by rfl) (by rfl)) (@z08 _ _ _ _ (@z04 _ _ _ _ _))) (@z0j _ _) (by rfl)) (by rfl)) (by rfl)) rfl (by decide) (by rfl) (by rfl)) (by intro _; rfl)))
   ·refine (@z0e _ _ _ _ ?_)
    exact (@z4B _ _ _)
   ·exact z1j
  refine (@z0e _ _ _ _ ?_)
  refine (@z2b _ _ _ _ _ _ _ _ _ ?_ ?_ ?_)
  ·exact (@z1i _ _ _ _ _ (@z1G _ _ _ _ (@z0c _ _ _ _ _ (2) _ _ _ _ _ k_whole_within z1n (hr.mono (by decide)) rfl (@z00 _ _ _ _ _ _ (@z01 _ _ _ _ (pv 3)) (@z00 _ _ _ _ _ _ (@z04 _ _ _ _ _) (@z00 _ _ _ _ _ _ (@z0H _ _ _ _ _ _ _ _ _ _ z1R z1S (@z0c _ _ _ _ _ (1) _ _ _ _ _ k_grown_size z1l (hr.mono (by decide)) rfl (@z00 _ _ _ _ _ _ (@z04 _ _ _ _ _) (@z00 _ _ _ _ _ _ (@z0l _ _ _ _ _ _ _ _ _ z0k z0A (pv 0) (@z08 _ _ _ _ (@z04 _ _ _ _ _)) (fun _ _=>rfl)) (@z00 _ _ _ _ _ _ (@z01 _ _ _ _ (pv 1)) (@z0j _ _) (by rfl)) (by rfl)) (by rfl)) rfl (by decide) (by rfl) (by rfl)) (@z08 _ _ _ _ (@z04 _ _ _ _ _))) (@z0j _ _) (by rfl)) (by rfl)) (by rfl)) rfl (by decide) (by rfl) (by rfl)) (by intro _; rfl)))
  ·refine (@z0e _ _ _ _ ?_)
   exact (@z4B _ _ _)
  ·exact z1j) fun ss y h=>z0B h
/-! ### laid_cut -/
def z5f:DS:=(dSeq (dAsg (eVar 3) (gTp 4 (z0i (gNm [] 4) (z0i (gNm [] 5) (z0i (gNm [] 6) (z0i (gNm [] 7) z1F)))))) (dSeq (dAsg (eC1 z2E (bOf (eOpF pIx 0 (bOf (eD (.int 2)))))) (gNm [] 8)) (dSeq (dAsg (z05 z0z [.val (eD (.int 1)),.val (eOpF pIx 0 (bOf (eD (.int 0)))),.val (eVar 2)]) (gNm [] 9)) (dSeq (dAsg (z05 z0z [.val (eD (.int 1)),.val (eOpF pIx 0 (bOf (eD (.int 1)))),.val (eVar 2)]) (gNm [] 10)) (dSeq (dAsg (eTup (z09 (eVar 1) aNil)) (gNm [] 11)) (dSeq (dAsg (eD (.int 0)) (gNm [] 12)) (dSeq (dAsg (eD (.int 0)) (gNm [] 13)) (dSeq (dFor (z0S (eVar 2)) (gNm [] 14) (dSeq (dAsg (eOpF pDiv 9 (bOf (eOpF pIx 0 (bOf (eD (.int 0)))))) (gNm [] 9)) (dSeq (dAsg (eOpF pDiv 10 (bOf (eOpF pIx 0 (bOf (eD (.int 1)))))) (gNm [] 10)) (dSeq (dAsg (eOpF z5T 4 (bVar 9)) (gNm [] 15)) (dSeq (dAsg (eOpF z5T 5 (bVar 10)) (gNm [] 16)) (dSeq (dAsg (eOp pAdd (eOp pSub (eOp z5T (eOp pSub (eOpF pAdd 4 (bVar 6)) (bOf (eD (.int 1)))) (bVar 9)) (bVar 15)) (bOf (eD (.int 1)))) (gNm [] 17)) (dSeq (dAsg (eOp pAdd (eOp pSub (eOp z5T (eOp pSub (eOpF pAdd 5 (bVar 7)) (bOf (eD (.int 1)))) (bVar 10)) (bVar 16)) (bOf (eD (.int 1)))) (gNm [] 18)) (dSeq (dAsg (z05 z0X [.val (eVar 8),.val (eOpF pIx 0 (bOf (eD (.int 0)))),.val (eVar 11)]) (gNm [] 19)) (dSeq (dAsg (z05 z18 [.val (eVar 19),.val (eOpF pSub 15 (bOf (eOpF z2g 12 (bOf (eOpF pIx 0 (bOf (eD (.int 0)))))))),.val (eOpF pSub 16 (bOf (eOpF z2g 13 (bOf (eOpF pIx 0 (bOf (eD (.int 1)))))))),.val (eVar 17),.val (eVar 18)]) (gNm [] 11)) (dSeq (dAsg (eVar 15) (gNm [] 12)) (dAsg (eVar 16) (gNm [] 13)))))))))))) (dRet (eVar 11))))))))))
def z2J:DF:=gOf [] 20 z5f
theorem z6q:z1N z2J:=z0o
theorem sc_laid_cut:FnScope ["rule","tile","growings","cut","row","column","high","wide","block_of","tall","broad","kept","top","left","growing","first","start","rows","columns","grown"] ["rule","tile","growings","cut"] (z06 z32):=⟨rfl,rfl,rfl,by decide +kernel,rfl,by decide +kernel,by decide +kernel⟩
theorem z8K {P:Program} {w:World} {K:PySem.W.Frag} {mg:Str→Option Value} {base:Heap} {f:Addr} {fd:FuncData} (F:Fun K "laid_cut" "laid_cut" z32 f fd) (hm:mg "laid_cut" = some (.ref f)) (hb:Binds K fd ["rule","tile","growings","cut"] []) (T:Txt K mg) (k_cut_floor:KFn P w K mg base 1 "cut_floor" 5 z18) (k_laid_floor:KFn P w K mg base 1 "laid_floor" 3 z0X) (k_grown_size:KFn P w K mg base 1 "grown_size" 3 z0z):KFn P w K mg base 2 "laid_cut" 4 z2J :=
 z15 (np:=[]) (fb:=z5f) F hm hb sc_laid_cut (fun c cdv A outer s H E hr hnp=>by
  have hq:=z22 hr
  refine (@z03 _ _ _ _ _ _ ?_ ?_)
  ·refine (@z5h _ _ _ _ _ _ _ ?_ ?_ (by rfl) (by rfl) (by rfl))
   ·exact (@z01 _ _ _ _ (pv 3))
   ·exact (@z4C _ _ _ _ _ _ _ rfl (@z0D _ _ _ _ _ _ (@z0t _ _ _ ([]) (4) _ hnp sc_laid_cut.nd rfl (by first | exact Or.inl rfl | exact Or.inr rfl) (Or.inl rfl)) (@z0D _ _ _ _ _ _ (@z0t _ _ _ ([]) (5) _ hnp sc_laid_cut.nd rfl (by first | exact Or.inl rfl | exact Or.inr rfl) (Or.inl rfl)) (@z0D _ _ _ _ _ _ (@z0t _ _ _ ([]) (6) _ hnp sc_laid_cut.nd rfl (by first | exact Or.inl rfl | exact Or.inr rfl) (Or.inl rfl)) (@z0D _ _ _ _ _ _ (@z0t _ _ _ ([]) (7) _ hnp sc_laid_cut.nd rfl (by first | exact Or.inl rfl | exact Or.inr rfl) (Or.inl rfl)) (@z3B _ _) (by rfl)) (by rfl)) (by rfl)) (by rfl)) (by rfl) (by rfl))
  refine (@z03 _ _ _ _ _ _ ?_ ?_)
  ·exact (@z0g _ _ _ _ _ _ ([]) (8) _ hnp sc_laid_cut.nd rfl (by first | exact Or.inl rfl | exact Or.inr rfl) (@z4D _ _ _ _ _ _ rfl rfl T.z_dict (@z08 _ _ _ _ (@z0l _ _ _ _ _ _ _ _ _ z0k z0A (pv 0) (@z08 _ _ _ _ (@z04 _ _ _ _ _)) (fun _ _=>rfl))) (by rfl)) rfl (Or.inl rfl))
  refine (@z03 _ _ _ _ _ _ ?_ ?_)
  ·exact (@z0g _ _ _ _ _ _ ([]) (9) _ hnp sc_laid_cut.nd rfl (by first | exact Or.inl rfl | exact Or.inr rfl) (@z0c _ _ _ _ _ (1) _ _ _ _ _ k_grown_size z1l (hr.mono (by decide)) rfl (@z00 _ _ _ _ _ _ (@z04 _ _ _ _ _) (@z00 _ _ _ _ _ _ (@z0l _ _ _ _ _ _ _ _ _ z0k z0A (pv 0) (@z08 _ _ _ _ (@z04 _ _ _ _ _)) (fun _ _=>rfl)) (@z00 _ _ _ _ _ _ (@z01 _ _ _ _ (pv 2)) (@z0j _ _) (by rfl)) (by rfl)) (by rfl)) rfl (by decide) (by rfl) (by rfl)) rfl (Or.inl rfl))
  refine (@z03 _ _ _ _ _ _ ?_ ?_)
  ·exact (@z0g _ _ _ _ _ _ ([]) (10) _ hnp sc_laid_cut.nd rfl (by first | exact Or.inl rfl | exact Or.inr rfl) (@z0c _ _ _ _ _ (1) _ _ _ _ _ k_grown_size z1l (hr.mono (by decide)) rfl (@z00 _ _ _ _ _ _ (@z04 _ _ _ _ _) (@z00 _ _ _ _ _ _ (@z0l _ _ _ _ _ _ _ _ _ z0k z0A (pv 0) (@z08 _ _ _ _ (@z04 _ _ _ _ _)) (fun _ _=>rfl)) (@z00 _ _ _ _ _ _ (@z01 _ _ _ _ (pv 2)) (@z0j _ _) (by rfl)) (by rfl)) (by rfl)) rfl (by decide) (by rfl) (by rfl)) rfl (Or.inl rfl))
  refine (@z03 _ _ _ _ _ _ ?_ ?_)
  ·exact (@z0g _ _ _ _ _ _ ([]) (11) _ hnp sc_laid_cut.nd rfl (by first | exact Or.inl rfl | exact Or.inr rfl) (@z0G _ _ _ _ _ _ (@z02 _ _ _ _ _ _ (@z01 _ _ _ _ (pv 1)) (@z0s _ _) (by rfl)) (by decide)) rfl (Or.inl rfl))
  refine (@z03 _ _ _ _ _ _ ?_ ?_)
  ·exact (@z0g _ _ _ _ _ _ ([]) (12) _ hnp sc_laid_cut.nd rfl (by first | exact Or.inl rfl | exact Or.inr rfl) (@z04 _ _ _ _ _) rfl (Or.inl rfl))
  refine (@z03 _ _ _ _ _ _ ?_ ?_)
  ·exact (@z0g _ _ _ _ _ _ ([]) (13) _ hnp sc_laid_cut.nd rfl (by first | exact Or.inl rfl | exact Or.inr rfl) (@z04 _ _ _ _ _) rfl (Or.inl rfl))
  refine (@z03 _ _ _ _ _ _ ?_ ?_)
  ·refine (@z2O _ _ _ _ _ _ _ _ _ PassesOwn.never rfl ?_ ?_ ?_ (by intro _; rfl))
   ·exact (@z2c _ _ _ _ _ _ _ rfl T.z_range (@z01 _ _ _ _ (pv 2)) (by rfl))
   ·exact (@z0t _ _ _ ([]) (14) _ hnp sc_laid_cut.nd rfl (by first | exact Or.inl rfl | exact Or.inr rfl) (Or.inl rfl))
   ·refine (@z03 _ _ _ _ _ _ ?_ ?_)
    ·exact (@z0g _ _ _ _ _ _ ([]) (9) _ hnp sc_laid_cut.nd rfl (by first | exact Or.inl rfl | exact Or.inr rfl) (@z0E _ _ _ _ _ _ _ _ _ _ z4l z5Z (pv 9) (@z08 _ _ _ _ (@z0l _ _ _ _ _ _ _ _ _ z0k z0A (pv 0) (@z08 _ _ _ _ (@z04 _ _ _ _ _)) (fun _ _=>rfl)))) rfl (Or.inl rfl))
    refine (@z03 _ _ _ _ _ _ ?_ ?_)
    ·exact (@z0g _ _ _ _ _ _ ([]) (10) _ hnp sc_laid_cut.nd rfl (by first | exact Or.inl rfl | exact Or.inr rfl) (@z0E _ _ _ _ _ _ _ _ _ _ z4l z5Z (pv 10) (@z08 _ _ _ _ (@z0l _ _ _ _ _ _ _ _ _ z0k z0A (pv 0) (@z08 _ _ _ _ (@z04 _ _ _ _ _)) (fun _ _=>rfl)))) rfl (Or.inl rfl))
    refine (@z03 _ _ _ _ _ _ ?_ ?_)
    ·exact (@z0g _ _ _ _ _ _ ([]) (15) _ hnp sc_laid_cut.nd rfl (by first | exact Or.inl rfl | exact Or.inr rfl) (@z0E _ _ _ _ _ _ _ _ _ _ z5C z7i (pv 4) (@z0a _ _ _ _ (pv 9))) rfl (Or.inl rfl))
    refine (@z03 _ _ _ _ _ _ ?_ ?_)
    ·exact (@z0g _ _ _ _ _ _ ([]) (16) _ hnp sc_laid_cut.nd rfl (by first | exact Or.inl rfl | exact Or.inr rfl) (@z0E _ _ _ _ _ _ _ _ _ _ z5C z7i (pv 5) (@z0a _ _ _ _ (pv 10))) rfl (Or.inl rfl))
    refine (@z03 _ _ _ _ _ _ ?_ ?_)
    ·exact (@z0g _ _ _ _ _ _ ([]) (17) _ hnp sc_laid_cut.nd rfl (by first | exact Or.inl rfl | exact Or.inr rfl) (@z0H _ _ _ _ _ _ _ _ _ _ z0m z0w (@z0H _ _ _ _ _ _ _ _ _ _ z1R z1S (@z0H _ _ _ _ _ _ _ _ _ _ z5C z7i (@z0H _ _ _ _ _ _ _ _ _ _ z1R z1S (@z0E _ _ _ _ _ _ _ _ _ _ z0m z0w (pv 4) (@z0a _ _ _ _ (pv 6))) (@z08 _ _ _ _ (@z04 _ _ _ _ _))) (@z0a _ _ _ _ (pv 9))) (@z0a _ _ _ _ (pv 15))) (@z08 _ _ _ _ (@z04 _ _ _ _ _))) rfl (Or.inl rfl))
    refine (@z03 _ _ _ _ _ _ ?_ ?_)
    ·exact (@z0g _ _ _ _ _ _ ([]) (18) _ hnp sc_laid_cut.nd rfl (by first | exact Or.inl rfl | exact Or.inr rfl) (@z0H _ _ _ _ _ _ _ _ _ _ z0m z0w (@z0H _ _ _ _ _ _ _ _ _ _ z1R z1S (@z0H _ _ _ _ _ _ _ _ _ _ z5C z7i (@z0H _ _ _ _ _ _ _ _ _ _ z1R z1S (@z0E _ _ _ _ _ _ _ _ _ _ z0m z0w (pv 5) (@z0a _ _ _ _ (pv 7))) (@z08 _ _ _ _ (@z04 _ _ _ _ _))) (@z0a _ _ _ _ (pv 10))) (@z0a _ _ _ _ (pv 16))) (@z08 _ _ _ _ (@z04 _ _ _ _ _))) rfl (Or.inl rfl))
    refine (@z03 _ _ _ _ _ _ ?_ ?_)
    ·exact (@z0g _ _ _ _ _ _ ([]) (19) _ hnp sc_laid_cut.nd rfl (by first | exact Or.inl rfl | exact Or.inr rfl) (@z0c _ _ _ _ _ (1) _ _ _ _ _ k_laid_floor z3J (hr.mono (by decide)) rfl (@z00 _ _ _ _ _ _ (@z01 _ _ _ _ (pv 8)) (@z00 _ _ _ _ _ _ (@z0l _ _ _ _ _ _ _ _ _ z0k z0A (pv 0) (@z08 _ _ _ _ (@z04 _ _ _ _ _)) (fun _ _=>rfl)) (@z00 _ _ _ _ _ _ (@z01 _ _ _ _ (pv 11)) (@z0j _ _) (by rfl)) (by rfl)) (by rfl)) rfl (by decide) (by rfl) (by rfl)) rfl (Or.inl rfl))
    refine (@z03 _ _ _ _ _ _ ?_ ?_)
    ·exact (@z0g _ _ _ _ _ _ ([]) (11) _ hnp sc_laid_cut.nd rfl (by first | exact Or.inl rfl | exact Or.inr rfl) (@z0c _ _ _ _ _ (1) _ _ _ _ _ k_cut_floor z3R (hr.mono (by decide)) rfl (@z00 _ _ _ _ _ _ (@z01 _ _ _ _ (pv 19)) (@z00 _ _ _ _ _ _ (@z0E _ _ _ _ _ _ _ _ _ _ z1R z1S (pv 15) (@z08 _ _ _ _ (@z0E _ _ _ _ _ _ _ _ _ _ z37 z39 (pv 12) (@z08 _ _ _ _ (@z0l _ _ _ _ _ _ _ _ _ z0k z0A (pv 0) (@z08 _ _ _ _ (@z04 _ _ _ _ _)) (fun _ _=>rfl)))))) (@z00 _ _ _ _ _ _ (@z0E _ _ _ _ _ _ _ _ _ _ z1R z1S (pv 16) (@z08 _ _ _ _ (@z0E _ _ _ _ _ _ _ _ _ _ z37 z39 (pv 13) (@z08 _ _ _ _ (@z0l _ _ _ _ _ _ _ _ _ z0k z0A (pv 0) (@z08 _ _ _ _ (@z04 _ _ _ _ _)) (fun _ _=>rfl)))))) (@z00 _ _ _ _ _ _ (@z01 _ _ _ _ (pv 17)) (@z00 _ _ _ _ _ _ (@z01 _ _ _ _ (pv 18)) (@z0j _ _) (by rfl)) (by rfl)) (by rfl)) (by rfl)) (by rfl)) rfl (by decide) (by rfl) (by rfl)) rfl (Or.inl rfl))
    refine (@z03 _ _ _ _ _ _ ?_ ?_)
    ·exact (@z0g _ _ _ _ _ _ ([]) (12) _ hnp sc_laid_cut.nd rfl (by first | exact Or.inl rfl | exact Or.inr rfl) (@z01 _ _ _ _ (pv 15)) rfl (Or.inl rfl))
    refine (@z0e _ _ _ _ ?_)
    exact (@z0g _ _ _ _ _ _ ([]) (13) _ hnp sc_laid_cut.nd rfl (by first | exact Or.inl rfl | exact Or.inr rfl) (@z01 _ _ _ _ (pv 16)) rfl (Or.inl rfl))
  refine (@z0e _ _ _ _ ?_)
  refine (@z0u _ _ _ _ _ ?_)
  exact (@z01 _ _ _ _ (pv 11))) fun ss y h=>z0B h
/-! ### cut_far -/
def z6e:DS:=(dSeq (z6s (z05 z17 [.val (eVar 0),.val (eVar 1)])) (dSeq (z6s (z05 z0P [.val (eVar 2)])) (dSeq (z6s (z05 z1v [.val (eVar 0),.val (eVar 2),.val (eVar 3),.val (eVar 4)])) (dSeq (dAsg (z05 z0z [.val (eD (.int 1)),.val (eOpF pIx 0 (bOf (eD (.int 0)))),.val (eVar 2)]) (gNm [] 7)) (dSeq (dAsg (z05 z0z [.val (eD (.int 1)),.val (eOpF pIx 0 (bOf (eD (.int 1)))),.val (eVar 2)]) (gNm [] 8)) (dSeq (dIf (dOr (dTr (eOp pGt (eOpF pAdd 3 (bVar 5)) (bVar 7))) (dTr (eOp pGt (eOpF pAdd 4 (bVar 6)) (bVar 8)))) z4V z0N) (dRet (z05 z2J [.val (eVar 0),.val (eVar 1),.val (eVar 2),.val (eTup (z09 (eVar 3) (z09 (eVar 4) (z09 (eVar 5) (z09 (eVar 6) aNil)))))]))))))))
def z2T:DF:=gOf [] 9 z6e
theorem z7n:z1N z2T:=z0o
theorem sc_cut_far:FnScope ["rule","tile","growings","row","column","high","wide","tall","broad"] ["rule","tile","growings","row","column","high","wide"] (z06 z3y):=⟨rfl,rfl,rfl,by decide +kernel,rfl,by decide +kernel,by decide +kernel⟩
theorem z9J {P:Program} {w:World} {K:PySem.W.Frag} {mg:Str→Option Value} {base:Heap} {f:Addr} {fd:FuncData} (F:Fun K "cut_far" "cut_far" z3y f fd) (hm:mg "cut_far" = some (.ref f)) (hb:Binds K fd ["rule","tile","growings","row","column","high","wide"] []) (T:Txt K mg) (k_refuse_no_tile:KFn P w K mg base 1 "refuse_no_tile" 2 z17) (k_refuse_growings:KFn P w K mg base 3 "refuse_growings" 1 z0P) (k_grown_size:KFn P w K mg base 1 "grown_size" 3 z0z) (k_refuse_place:KFn P w K mg base 3 "refuse_place" 4 z1v) (k_laid_cut:KFn P w K mg base 2 "laid_cut" 4 z2J):KFn P w K mg base 4 "cut_far" 7 z2T :=
 z15 (np:=[]) (fb:=z6e) F hm hb sc_cut_far (fun c cdv A outer s H E hr hnp=>by
  have hq:=z22 hr
  refine (@z03 _ _ _ _ _ _ ?_ ?_)
  ·exact (@z6W _ _ _ _ _ (@z0c _ _ _ _ _ (1) _ _ _ _ _ k_refuse_no_tile z4c (hr.mono (by decide)) rfl (@z00 _ _ _ _ _ _ (@z01 _ _ _ _ (pv 0)) (@z00 _ _ _ _ _ _ (@z01 _ _ _ _ (pv 1)) (@z0j _ _) (by rfl)) (by rfl)) rfl (by decide) (by rfl) (by rfl)) (by rfl))
  refine (@z03 _ _ _ _ _ _ ?_ ?_)
  ·exact (@z6W _ _ _ _ _ (@z0c _ _ _ _ _ (3) _ _ _ _ _ k_refuse_growings z3Q (hr.mono (by decide)) rfl (@z00 _ _ _ _ _ _ (@z01 _ _ _ _ (pv 2)) (@z0j _ _) (by rfl)) rfl (by decide) (by rfl) (by rfl)) (by rfl))
  refine (@z03 _ _ _ _ _ _ ?_ ?_)
  ·exact (@z6W _ _ _ _ _ (@z0c _ _ _ _ _ (3) _ _ _ _ _ k_refuse_place z4R (hr.mono (by decide)) rfl (@z00 _ _ _ _ _ _ (@z01 _ _ _ _ (pv 0)) (@z00 _ _ _ _ _ _ (@z01 _ _ _ _ (pv 2)) (@z00 _ _ _ _ _ _ (@z01 _ _ _ _ (pv 3)) (@z00 _ _ _ _ _ _ (@z01 _ _ _ _ (pv 4)) (@z0j _ _) (by rfl)) (by rfl)) (by rfl)) (by rfl)) rfl (by decide) (by rfl) (by rfl)) (by rfl))
  refine (@z03 _ _ _ _ _ _ ?_ ?_)
  ·exact (@z0g _ _ _ _ _ _ ([]) (7) _ hnp sc_cut_far.nd rfl (by first | exact Or.inl rfl | exact Or.inr rfl) (@z0c _ _ _ _ _ (1) _ _ _ _ _ k_grown_size z1l (hr.mono (by decide)) rfl (@z00 _ _ _ _ _ _ (@z04 _ _ _ _ _) (@z00 _ _ _ _ _ _ (@z0l _ _ _ _ _ _ _ _ _ z0k z0A (pv 0) (@z08 _ _ _ _ (@z04 _ _ _ _ _)) (fun _ _=>rfl)) (@z00 _ _ _ _ _ _ (@z01 _ _ _ _ (pv 2)) (@z0j _ _) (by rfl)) (by rfl)) (by rfl)) rfl (by decide) (by rfl) (by rfl)) rfl (Or.inl rfl))
  refine (@z03 _ _ _ _ _ _ ?_ ?_)
  ·exact (@z0g _ _ _ _ _ _ ([]) (8) _ hnp sc_cut_far.nd rfl (by first | exact Or.inl rfl | exact Or.inr rfl) (@z0c _ _ _ _ _ (1) _ _ _ _ _ k_grown_size z1l (hr.mono (by decide)) rfl (@z00 _ _ _ _ _ _ (@z04 _ _ _ _ _) (@z00 _ _ _ _ _ _ (@z0l _ _ _ _ _ _ _ _ _ z0k z0A (pv 0) (@z08 _ _ _ _ (@z04 _ _ _ _ _)) (fun _ _=>rfl)) (@z00 _ _ _ _ _ _ (@z01 _ _ _ _ (pv 2)) (@z0j _ _) (by rfl)) (by rfl)) (by rfl)) rfl (by decide) (by rfl) (by rfl)) rfl (Or.inl rfl))
  refine (@z03 _ _ _ _ _ _ ?_ ?_)
  ·refine (@z2b _ _ _ _ _ _ _ _ _ ?_ ?_ ?_)
   ·exact (@z4b _ _ _ _ (@z3v _ _ _ _ _ _ _ _ (@z2w _ _ _ _ _ _ _ _ _ _ zcd z3l (@z0E _ _ _ _ _ _ _ _ _ _ z0m z0w (pv 3) (@z0a _ _ _ _ (pv 5))) (@z0a _ _ _ _ (pv 7)) (z1a _)) (@z35 _ _ _ _ _ (@z2w _ _ _ _ _ _ _ _ _ _ zcd z3l (@z0E _ _ _ _ _ _ _ _ _ _ z0m z0w (pv 4) (@z0a _ _ _ _ (pv 6))) (@z0a _ _ _ _ (pv 8)) (z1a _)))))
   ·refine (@z0e _ _ _ _ ?_)
    exact (@z4B _ _ _)
   ·exact z1j
  refine (@z0e _ _ _ _ ?_)
  refine (@z0u _ _ _ _ _ ?_)
  exact (@z0c _ _ _ _ _ (2) _ _ _ _ _ k_laid_cut z6q (hr.mono (by decide)) rfl (@z00 _ _ _ _ _ _ (@z01 _ _ _ _ (pv 0)) (@z00 _ _ _ _ _ _ (@z01 _ _ _ _ (pv 1)) (@z00 _ _ _ _ _ _ (@z01 _ _ _ _ (pv 2)) (@z00 _ _ _ _ _ _ (@z0G _ _ _ _ _ _ (@z02 _ _ _ _ _ _ (@z01 _ _ _ _ (pv 3)) (@z02 _ _ _ _ _ _ (@z01 _ _ _ _ (pv 4)) (@z02 _ _ _ _ _ _ (@z01 _ _ _ _ (pv 5)) (@z02 _ _ _ _ _ _ (@z01 _ _ _ _ (pv 6)) (@z0s _ _) (by rfl)) (by rfl)) (by rfl)) (by rfl)) (by decide)) (@z0j _ _) (by rfl)) (by rfl)) (by rfl)) (by rfl)) rfl (by decide) (by rfl) (by rfl))) fun ss y h=>z0B h
/-! ### _law_whole -/
def z43:DS:=(dRet (eAnd (eIsi "int" (bVar 0)) (eNot (eIsi "bool" (bVar 0)))))
def z0M:DF:=gOf [] 1 z43
theorem z2W:z1N z0M:=z0o
theorem z6Z:FnScope ["found"] ["found"] (z06 z2m):=⟨rfl,rfl,rfl,by decide +kernel,rfl,by decide +kernel,by decide +kernel⟩
theorem z7e {P:Program} {w:World} {K:PySem.W.Frag} {mg:Str→Option Value} {base:Heap} {f:Addr} {fd:FuncData} (F:Fun K "_law_whole" "_law_whole" z2m f fd) (hm:mg "_law_whole" = some (.ref f)) (hb:Binds K fd ["found"] []) (T:Txt K mg):KFn P w K mg base 1 "_law_whole" 1 z0M :=
 z15 (np:=[]) (fb:=z43) F hm hb z6Z (fun c cdv A outer s H E hr hnp=>by
  have hq:=z22 hr
  refine (@z0e _ _ _ _ ?_)
  refine (@z0u _ _ _ _ _ ?_)
  exact (@z5L _ _ _ _ _ _ _ _ (@z36 _ _ _ _ _ _ _ _ _ T.ty_int rfl T.z_isinstance rfl T.z_int boot_int (@z0a _ _ _ _ (pv 0)) (by decide) (by decide) (by rfl) (by rfl)) (@z7L _ _ _ _ _ _ (@zc5 _ _ _ _ _ (@z36 _ _ _ _ _ _ _ _ _ T.ty_bool rfl T.z_isinstance rfl T.z_bool boot_bool (@z0a _ _ _ _ (pv 0)) (by decide) (by decide) (by rfl) (by rfl)))))) fun ss y h=>z0B h
/-! ### _law_floor_good -/
def z2I:DS:=(dSeq (dIf (dOr (dNot (dTr (eIsi "tuple" (bVar 1)))) (dOr (dTr (eOpF pEq 1 (bOf (eTup aNil)))) (dNot (dTr (eC1 pAll (bOf (z28 [3] (iSq (eVar 1)) (gNm [] 3) dYes (eIsi "str" (bVar 3))))))))) (dRet (eD (.bl false))) z0N) (dSeq (dAsg (z28 [3] (iSq (eVar 1)) (gNm [] 3) dYes (eC1 pLen (bVar 3))) (gNm [] 2)) (dSeq (dIf (dOr (dTr (eOp pNe (eC1 z8F (bVar 2)) (bOf (eC1 z8G (bVar 2))))) (dTr (eOp pEq (eOpF pIx 2 (bOf (eD (.int 0)))) (bOf (eD (.int 0)))))) (dRet (eD (.bl false))) z0N) (dRet (eC1 pAll (bOf (z28 [4] (iSq (eC1 (z2t []) (bVar 1))) (gNm [] 4) dYes (eOp (pIn false) (eVar 4) (bOf (z05 z0q [.val (eVar 0)]))))))))))
def z0J:DF:=gOf [] 5 z2I
theorem z3V:z1N z0J:=z0o
theorem sc__law_floor_good:FnScope ["rule","thing","sizes","row","sign"] ["rule","thing"] (z06 z1f):=⟨rfl,rfl,rfl,by decide +kernel,rfl,by decide +kernel,by decide +kernel⟩
theorem z4M {P:Program} {w:World} {K:PySem.W.Frag} {mg:Str→Option Value} {base:Heap} {f:Addr} {fd:FuncData} (F:Fun K "_law_floor_good" "_law_floor_good" z1f f fd) (hm:mg "_law_floor_good" = some (.ref f)) (hb:Binds K fd ["rule","thing"] []) (T:Txt K mg) (k__law_tiles_of:KFn P w K mg base 1 "_law_tiles_of" 1 z0q):KFn P w K mg base 2 "_law_floor_good" 2 z0J :=
 z15 (np:=[]) (fb:=z2I) F hm hb sc__law_floor_good (fun c cdv A outer s H E hr hnp=>by
  have hq:=z22 hr
  refine (@z03 _ _ _ _ _ _ ?_ ?_)
  ·refine (@z2b _ _ _ _ _ _ _ _ _ ?_ ?_ ?_)
   ·exact (@z4b _ _ _ _ (@z3v _ _ _ _ _ _ _ _ (@z1i _ _ _ _ _ (@z1G _ _ _ _ (@z36 _ _ _ _ _ _ _ _ _ T.ty_tuple rfl T.z_isinstance rfl T.z_tuple boot_tuple (@z0a _ _ _ _ (pv 1)) (by decide) (by decide) (by rfl) (by rfl)) (by intro _; rfl))) (@z3v _ _ _ _ _ _ _ _ (@z5J _ _ _ _ _ _ _ _ _ _ (z3k hq) z4O (pv 1) (@z08 _ _ _ _ (@z0G _ _ _ _ _ _ (@z0s _ _) (by decide))) (z1a _)) (@z35 _ _ _ _ _ (@z1i _ _ _ _ _ (@z1G _ _ _ _ (@z7P _ _ _ _ _ _ rfl rfl T.z_all (@z08 _ _ _ _ (@z2U _ _ ([3]) _ _ _ _ _ _ _ _ _ _ rfl (@z1o _ _ _ rfl rfl) (@z3q _ _ _ _ _ (@z01 _ _ _ _ (pv 1))) (fun l s0 H0 ex=>(@z1K _ _ _ _ ([]) (3) _ hnp sc__law_floor_good.nd rfl (by first | exact Or.inl rfl | exact Or.inr rfl) (by first | exact Or.inl rfl | exact Or.inr rfl) (by decide))) (fun l s0 H0 ex=>(@z2r _ _)) (fun l s0 H0 ex=>(@z36 _ _ _ _ _ _ _ _ _ T.ty_str rfl T.z_isinstance rfl T.z_str boot_str (@z0a _ _ _ _ (pv 3)) (by decide) (by decide) (by rfl) (by rfl))) (z3m hnp rfl) (by intro _; rfl))) (by rfl)) (by intro _; rfl)))))))
   ·refine (@z0e _ _ _ _ ?_)
    refine (@z0u _ _ _ _ _ ?_)
    exact (@z30 _ _ _ _ _)
   ·exact z1j
  refine (@z03 _ _ _ _ _ _ ?_ ?_)
  ·exact (@z6z _ _ ([3]) _ _ _ _ _ _ _ _ _ _ ([]) (2) _ _ _ hnp rfl (@z1o _ _ _ rfl rfl) sc__law_floor_good.nd rfl rfl (@z3q _ _ _ _ _ (@z01 _ _ _ _ (pv 1))) (fun l s0 H0 ex=>(@z1K _ _ _ _ ([]) (3) _ hnp sc__law_floor_good.nd rfl (by first | exact Or.inl rfl | exact Or.inr rfl) (by first | exact Or.inl rfl | exact Or.inr rfl) (by decide))) (fun l s0 H0 ex=>(@z2r _ _)) (fun l s0 H0 ex=>(@z13 _ _ _ _ _ _ rfl T.z_len (@z0a _ _ _ _ (pv 3)) (by rfl))) (z3m hnp rfl) (by rfl) (by intro _; rfl))
  refine (@z03 _ _ _ _ _ _ ?_ ?_)
  ·refine (@z2b _ _ _ _ _ _ _ _ _ ?_ ?_ ?_)
   ·exact (@z4b _ _ _ _ (@z3v _ _ _ _ _ _ _ _ (@z2w _ _ _ _ _ _ _ _ _ _ (z4g hq) z6o (@zcG _ _ _ _ _ _ rfl rfl T.z_min (@z0a _ _ _ _ (pv 2)) (by rfl)) (@z08 _ _ _ _ (@zcH _ _ _ _ _ _ rfl rfl T.z_max (@z0a _ _ _ _ (pv 2)) (by rfl))) (z1a _)) (@z35 _ _ _ _ _ (@z2w _ _ _ _ _ _ _ _ _ _ (z3k hq) z4O (@z0l _ _ _ _ _ _ _ _ _ z0k z0A (pv 2) (@z08 _ _ _ _ (@z04 _ _ _ _ _)) (fun _ _=>rfl)) (@z08 _ _ _ _ (@z04 _ _ _ _ _)) (z1a _)))))
   ·refine (@z0e _ _ _ _ ?_)
    refine (@z0u _ _ _ _ _ ?_)
    exact (@z30 _ _ _ _ _)
   ·exact z1j
  refine (@z0e _ _ _ _ ?_)
  refine (@z0u _ _ _ _ _ ?_)
  exact (@z7P _ _ _ _ _ _ rfl rfl T.z_all (@z08 _ _ _ _ (@z2U _ _ ([4]) _ _ _ _ _ _ _ _ _ _ rfl (@z1o _ _ _ rfl rfl) (@z3q _ _ _ _ _ (@z5K _ _ _ _ _ _ _ _ _ [] (@z0a _ _ _ _ (pv 1)) (by decide +kernel) (by rfl) (by rfl) (by rfl) (by rfl))) (fun l s0 H0 ex=>(@z1K _ _ _ _ ([]) (4) _ hnp sc__law_floor_good.nd rfl (by first | exact Or.inl rfl | exact Or.inr rfl) (by first | exact Or.inl rfl | exact Or.inr rfl) (by decide))) (fun l s0 H0 ex=>(@z2r _ _)) (fun l s0 H0 ex=>(@z7O _ _ _ _ _ _ _ _ _ _ (@z9b _ hq) (@z7h _ false) (@z01 _ _ _ _ (pv 4)) (@z08 _ _ _ _ (@z0c _ _ _ _ _ (1) _ _ _ _ _ k__law_tiles_of z2h (hr.mono (by decide)) rfl (@z00 _ _ _ _ _ _ (@z01 _ _ _ _ (pv 0)) (@z0j _ _) (by rfl)) rfl (by decide) (by rfl) (by rfl))) rfl)) (z3m hnp rfl) (by intro _; rfl))) (by rfl))) fun ss y h=>z0B h
/-! ### _law_over -/
def z4x:DS:=(dRet (eOp pAdd (eOp pDiv (eOp pSub (eOpF pAdd 0 (bVar 1)) (bOf (eD (.int 1)))) (bVar 2)) (bOf (eD (.int 1)))))
def z1P:DF:=gOf [] 3 z4x
theorem z3T:z1N z1P:=z0o
theorem z7Q:FnScope ["start","size","side"] ["start","size","side"] (z06 z2B):=⟨rfl,rfl,rfl,by decide +kernel,rfl,by decide +kernel,by decide +kernel⟩
theorem z85 {P:Program} {w:World} {K:PySem.W.Frag} {mg:Str→Option Value} {base:Heap} {f:Addr} {fd:FuncData} (F:Fun K "_law_over" "_law_over" z2B f fd) (hm:mg "_law_over" = some (.ref f)) (hb:Binds K fd ["start","size","side"] []) (T:Txt K mg):KFn P w K mg base 1 "_law_over" 3 z1P :=
 z15 (np:=[]) (fb:=z4x) F hm hb z7Q (fun c cdv A outer s H E hr hnp=>by
  have hq:=z22 hr
  refine (@z0e _ _ _ _ ?_)
  refine (@z0u _ _ _ _ _ ?_)
  exact (@z0H _ _ _ _ _ _ _ _ _ _ z0m z0w (@z0H _ _ _ _ _ _ _ _ _ _ z4l z5Z (@z0H _ _ _ _ _ _ _ _ _ _ z1R z1S (@z0E _ _ _ _ _ _ _ _ _ _ z0m z0w (pv 0) (@z0a _ _ _ _ (pv 1))) (@z08 _ _ _ _ (@z04 _ _ _ _ _))) (@z0a _ _ _ _ (pv 2))) (@z08 _ _ _ _ (@z04 _ _ _ _ _)))) fun ss y h=>z0B h
/-! ### _law_step_due -/
def z3h:DS:=(dSeq (dIf (dOr (dNot (dTr (eIsi "tuple" (bVar 2)))) (dOr (dTr (eOp pNe (eC1 pLen (bVar 2)) (bOf (eD (.int 3))))) (dOr (dNot (dTr (z05 z0M [.val (eOpF pIx 2 (bOf (eD (.int 0))))]))) (dNot (dTr (z05 z0M [.val (eOpF pIx 2 (bOf (eD (.int 1))))])))))) (dRet (eD (.bl false))) z0N) (dSeq (dAsg (eVar 2) (gTp 3 (z0i (gNm [] 3) (z0i (gNm [] 4) (z0i (gNm [] 5) z1F))))) (dSeq (dIf (dOr (dNot (dTr (z3A pLe pLt (eD (.int 0)) (eVar 3) (bOf (eOpF pIx 0 (bOf (eD (.int 0)))))))) (dOr (dNot (dTr (z3A pLe pLt (eD (.int 0)) (eVar 4) (bOf (eOpF pIx 0 (bOf (eD (.int 1)))))))) (dNot (dTr (z05 z0J [.val (eVar 0),.val (eVar 5)]))))) (dRet (eD (.bl false))) z0N) (dSeq (dIf (dTr (eOp pNe (eTup (z09 (eC1 pLen (bVar 5)) (z09 (eC1 pLen (bOf (eOpF pIx 5 (bOf (eD (.int 0)))))) aNil))) (bOf (eTup (z09 (z05 z1P [.val (eVar 3),.val (eC1 pLen (bVar 1)),.val (eOpF pIx 0 (bOf (eD (.int 0))))]) (z09 (z05 z1P [.val (eVar 4),.val (eC1 pLen (bOf (eOpF pIx 1 (bOf (eD (.int 0)))))),.val (eOpF pIx 0 (bOf (eD (.int 1))))]) aNil)))))) (dRet (eD (.bl false))) z0N) (dRet (eOp pEq (z05 z1E [.val (z05 z0C [.val (eVar 0),.val (eVar 5)]),.val (eVar 3),.val (eVar 4),.val (eC1 pLen (bVar 1)),.val (eC1 pLen (bOf (eOpF pIx 1 (bOf (eD (.int 0))))))]) (bVar 1)))))))
def z0Z:DF:=gOf [] 6 z3h
theorem z4p:z1N z0Z:=z0o
theorem sc__law_step_due:FnScope ["rule","floor","thing","i","j","lesser"] ["rule","floor","thing"] (z06 z1B):=⟨rfl,rfl,rfl,by decide +kernel,rfl,by decide +kernel,by decide +kernel⟩
theorem z5q {P:Program} {w:World} {K:PySem.W.Frag} {mg:Str→Option Value} {base:Heap} {f:Addr} {fd:FuncData} (F:Fun K "_law_step_due" "_law_step_due" z1B f fd) (hm:mg "_law_step_due" = some (.ref f)) (hb:Binds K fd ["rule","floor","thing"] []) (T:Txt K mg) (k__law_grown_of:KFn P w K mg base 1 "_law_grown_of" 2 z0C) (k__law_cut:KFn P w K mg base 1 "_law_cut" 5 z1E) (k__law_whole:KFn P w K mg base 1 "_law_whole" 1 z0M) (k__law_floor_good:KFn P w K mg base 2 "_law_floor_good" 2 z0J) (k__law_over:KFn P w K mg base 1 "_law_over" 3 z1P):KFn P w K mg base 3 "_law_step_due" 3 z0Z :=
 z15 (np:=[]) (fb:=z3h) F hm hb sc__law_step_due (fun c cdv A outer s H E hr hnp=>by
  have hq:=z22 hr
  refine (@z03 _ _ _ _ _ _ ?_ ?_)
  ·refine (@z2b _ _ _ _ _ _ _ _ _ ?_ ?_ ?_)
   ·exact (@z4b _ _ _ _ (@z3v _ _ _ _ _ _ _ _ (@z1i _ _ _ _ _ (@z1G _ _ _ _ (@z36 _ _ _ _ _ _ _ _ _ T.ty_tuple rfl T.z_isinstance rfl T.z_tuple boot_tuple (@z0a _ _ _ _ (pv 2)) (by decide) (by decide) (by rfl) (by rfl)) (by intro _; rfl))) (@z3v _ _ _ _ _ _ _ _ (@z2w _ _ _ _ _ _ _ _ _ _ (z4g hq) z6o (@z13 _ _ _ _ _ _ rfl T.z_len (@z0a _ _ _ _ (pv 2)) (by rfl)) (@z08 _ _ _ _ (@z04 _ _ _ _ _)) (z1a _)) (@z3v _ _ _ _ _ _ _ _ (@z1i _ _ _ _ _ (@z1G _ _ _ _ (@z0c _ _ _ _ _ (1) _ _ _ _ _ k__law_whole z2W (hr.mono (by decide)) rfl (@z00 _ _ _ _ _ _ (@z0l _ _ _ _ _ _ _ _ _ z0k z0A (pv 2) (@z08 _ _ _ _ (@z04 _ _ _ _ _)) (fun _ _=>rfl)) (@z0j _ _) (by rfl)) rfl (by decide) (by rfl) (by rfl)) (by intro _; rfl))) (@z35 _ _ _ _ _ (@z1i _ _ _ _ _ (@z1G _ _ _ _ (@z0c _ _ _ _ _ (1) _ _ _ _ _ k__law_whole z2W (hr.mono (by decide)) rfl (@z00 _ _ _ _ _ _ (@z0l _ _ _ _ _ _ _ _ _ z0k z0A (pv 2) (@z08 _ _ _ _ (@z04 _ _ _ _ _)) (fun _ _=>rfl)) (@z0j _ _) (by rfl)) rfl (by decide) (by rfl) (by rfl)) (by intro _; rfl))))))))
   ·refine (@z0e _ _ _ _ ?_)
    refine (@z0u _ _ _ _ _ ?_)
    exact (@z30 _ _ _ _ _)
   ·exact z1j
  refine (@z03 _ _ _ _ _ _ ?_ ?_)
  ·refine (@z5h _ _ _ _ _ _ _ ?_ ?_ (by rfl) (by rfl) (by rfl))
   ·exact (@z01 _ _ _ _ (pv 2))
   ·exact (@z4C _ _ _ _ _ _ _ rfl (@z0D _ _ _ _ _ _ (@z0t _ _ _ ([]) (3) _ hnp sc__law_step_due.nd rfl (by first | exact Or.inl rfl | exact Or.inr rfl) (Or.inl rfl)) (@z0D _ _ _ _ _ _ (@z0t _ _ _ ([]) (4) _ hnp sc__law_step_due.nd rfl (by first | exact Or.inl rfl | exact Or.inr rfl) (Or.inl rfl)) (@z0D _ _ _ _ _ _ (@z0t _ _ _ ([]) (5) _ hnp sc__law_step_due.nd rfl (by first | exact Or.inl rfl | exact Or.inr rfl) (Or.inl rfl)) (@z3B _ _) (by rfl)) (by rfl)) (by rfl)) (by rfl) (by rfl))
  refine (@z03 _ _ _ _ _ _ ?_ ?_)
  ·refine (@z2b _ _ _ _ _ _ _ _ _ ?_ ?_ ?_)
   ·exact (@z4b _ _ _ _ (@z3v _ _ _ _ _ _ _ _ (@z1i _ _ _ _ _ (@z5z _ _ _ _ _ _ _ _ _ _ _ _ _ _ _ z4h z81 z3l zaG (@z04 _ _ _ _ _) (@z01 _ _ _ _ (pv 3)) (@z08 _ _ _ _ (@z0l _ _ _ _ _ _ _ _ _ z0k z0A (pv 0) (@z08 _ _ _ _ (@z04 _ _ _ _ _)) (fun _ _=>rfl))) (by with_unfolding_all rfl))) (@z3v _ _ _ _ _ _ _ _ (@z1i _ _ _ _ _ (@z5z _ _ _ _ _ _ _ _ _ _ _ _ _ _ _ z4h z81 z3l zaG (@z04 _ _ _ _ _) (@z01 _ _ _ _ (pv 4)) (@z08 _ _ _ _ (@z0l _ _ _ _ _ _ _ _ _ z0k z0A (pv 0) (@z08 _ _ _ _ (@z04 _ _ _ _ _)) (fun _ _=>rfl))) (by with_unfolding_all rfl))) (@z35 _ _ _ _ _ (@z1i _ _ _ _ _ (@z1G _ _ _ _ (@z0c _ _ _ _ _ (2) _ _ _ _ _ k__law_floor_good z3V (hr.mono (by decide)) rfl (@z00 _ _ _ _ _ _ (@z01 _ _ _ _ (pv 0)) (@z00 _ _ _ _ _ _ (@z01 _ _ _ _ (pv 5)) (@z0j _ _) (by rfl)) (by rfl)) rfl (by decide) (by rfl) (by rfl)) (by intro _; rfl)))))))
   ·refine (@z0e _ _ _ _ ?_)
    refine (@z0u _ _ _ _ _ ?_)
    exact (@z30 _ _ _ _ _)
   ·exact z1j
  refine (@z03 _ _ _ _ _ _ ?_ ?_)
  ·refine (@z2b _ _ _ _ _ _ _ _ _ ?_ ?_ ?_)
   ·exact (@z2w _ _ _ _ _ _ _ _ _ _ (z4g hq) z6o (@z0G _ _ _ _ _ _ (@z02 _ _ _ _ _ _ (@z13 _ _ _ _ _ _ rfl T.z_len (@z0a _ _ _ _ (pv 5)) (by rfl)) (@z02 _ _ _ _ _ _ (@z13 _ _ _ _ _ _ rfl T.z_len (@z08 _ _ _ _ (@z0l _ _ _ _ _ _ _ _ _ z0k z0A (pv 5) (@z08 _ _ _ _ (@z04 _ _ _ _ _)) (fun _ _=>rfl))) (by rfl)) (@z0s _ _) (by rfl)) (by rfl)) (by decide)) (@z08 _ _ _ _ (@z0G _ _ _ _ _ _ (@z02 _ _ _ _ _ _ (@z0c _ _ _ _ _ (1) _ _ _ _ _ k__law_over z3T (hr.mono (by decide)) rfl (@z00 _ _ _ _ _ _ (@z01 _ _ _ _ (pv 3)) (@z00 _ _ _ _ _ _ (@z13 _ _ _ _ _ _ rfl T.z_len (@z0a _ _ _ _ (pv 1)) (by rfl)) (@z00 _ _ _ _ _ _ (@z0l _ _ _ _ _ _ _ _ _ z0k z0A (pv 0) (@z08 _ _ _ _ (@z04 _ _ _ _ _)) (fun _ _=>rfl)) (@z0j _ _) (by rfl)) (by rfl)) (by rfl)) rfl (by decide) (by rfl) (by rfl)) (@z02 _ _ _ _ _ _ (@z0c _ _ _ _ _ (1) _ _ _ _ _ k__law_over z3T (hr.mono (by decide)) rfl (@z00 _ _ _ _ _ _ (@z01 _ _ _ _ (pv 4)) (@z00 _ _ _ _ _ _ (@z13 _ _ _ _ _ _ rfl T.z_len (@z08 _ _ _ _ (@z0l _ _ _ _ _ _ _ _ _ z0k z0A (pv 1) (@z08 _ _ _ _ (@z04 _ _ _ _ _)) (fun _ _=>rfl))) (by rfl)) (@z00 _ _ _ _ _ _ (@z0l _ _ _ _ _ _ _ _ _ z0k z0A (pv 0) (@z08 _ _ _ _ (@z04 _ _ _ _ _)) (fun _ _=>rfl)) (@z0j _ _) (by rfl)) (by rfl)) (by rfl)) rfl (by decide) (by rfl) (by rfl)) (@z0s _ _) (by rfl)) (by rfl)) (by decide))) (z1a _))
   ·refine (@z0e _ _ _ _ ?_)
    refine (@z0u _ _ _ _ _ ?_)
    exact (@z30 _ _ _ _ _)
   ·exact z1j
  refine (@z0e _ _ _ _ ?_)
  refine (@z0u _ _ _ _ _ ?_)
  exact (@z7O _ _ _ _ _ _ _ _ _ _ (z3k hq) z4O (@z0c _ _ _ _ _ (1) _ _ _ _ _ k__law_cut z4i (hr.mono (by decide)) rfl (@z00 _ _ _ _ _ _ (@z0c _ _ _ _ _ (1) _ _ _ _ _ k__law_grown_of z3c (hr.mono (by decide)) rfl (@z00 _ _ _ _ _ _ (@z01 _ _ _ _ (pv 0)) (@z00 _ _ _ _ _ _ (@z01 _ _ _ _ (pv 5)) (@z0j _ _) (by rfl)) (by rfl)) rfl (by decide) (by rfl) (by rfl)) (@z00 _ _ _ _ _ _ (@z01 _ _ _ _ (pv 3)) (@z00 _ _ _ _ _ _ (@z01 _ _ _ _ (pv 4)) (@z00 _ _ _ _ _ _ (@z13 _ _ _ _ _ _ rfl T.z_len (@z0a _ _ _ _ (pv 1)) (by rfl)) (@z00 _ _ _ _ _ _ (@z13 _ _ _ _ _ _ rfl T.z_len (@z08 _ _ _ _ (@z0l _ _ _ _ _ _ _ _ _ z0k z0A (pv 1) (@z08 _ _ _ _ (@z04 _ _ _ _ _)) (fun _ _=>rfl))) (by rfl)) (@z0j _ _) (by rfl)) (by rfl)) (by rfl)) (by rfl)) (by rfl)) rfl (by decide) (by rfl) (by rfl)) (@z0a _ _ _ _ (pv 1)) (z1a _))) fun ss y h=>z0B h
/-! ### _law_due_of -/
def z3I:DS:=(dSeq (dIf (dNot (dTr (eIsi "tuple" (bVar 3)))) (dRet (eD (.bl false))) z0N) (dSeq (dAsg (eVar 2) (gNm [] 4)) (dSeq (dFor (iSq (eVar 3)) (gNm [] 5) (dSeq (dIf (dNot (dTr (z05 z0Z [.val (eVar 0),.val (eVar 4),.val (eVar 5)]))) (dRet (eD (.bl false))) z0N) (dAsg (eOpF pIx 5 (bOf (eD (.int 2)))) (gNm [] 4)))) (dRet (eOpF pEq 4 (bOf (eTup (z09 (eVar 1) aNil))))))))
def z1t:DF:=gOf [] 6 z3I
theorem z5e:z1N z1t:=z0o
theorem sc__law_due_of:FnScope ["rule","tile","floor","thing","here","step"] ["rule","tile","floor","thing"] (z06 z27):=⟨rfl,rfl,rfl,by decide +kernel,rfl,by decide +kernel,by decide +kernel⟩
theorem z6n {P:Program} {w:World} {K:PySem.W.Frag} {mg:Str→Option Value} {base:Heap} {f:Addr} {fd:FuncData} (F:Fun K "_law_due_of" "_law_due_of" z27 f fd) (hm:mg "_law_due_of" = some (.ref f)) (hb:Binds K fd ["rule","tile","floor","thing"] []) (T:Txt K mg) (k__law_step_due:KFn P w K mg base 3 "_law_step_due" 3 z0Z):KFn P w K mg base 4 "_law_due_of" 4 z1t :=
 z15 (np:=[]) (fb:=z3I) F hm hb sc__law_due_of (fun c cdv A outer s H E hr hnp=>by
  have hq:=z22 hr
  refine (@z03 _ _ _ _ _ _ ?_ ?_)
  ·refine (@z2b _ _ _ _ _ _ _ _ _ ?_ ?_ ?_)
   ·exact (@z1i _ _ _ _ _ (@z1G _ _ _ _ (@z36 _ _ _ _ _ _ _ _ _ T.ty_tuple rfl T.z_isinstance rfl T.z_tuple boot_tuple (@z0a _ _ _ _ (pv 3)) (by decide) (by decide) (by rfl) (by rfl)) (by intro _; rfl)))
   ·refine (@z0e _ _ _ _ ?_)
    refine (@z0u _ _ _ _ _ ?_)
    exact (@z30 _ _ _ _ _)
   ·exact z1j
  refine (@z03 _ _ _ _ _ _ ?_ ?_)
  ·exact (@z0g _ _ _ _ _ _ ([]) (4) _ hnp sc__law_due_of.nd rfl (by first | exact Or.inl rfl | exact Or.inr rfl) (@z01 _ _ _ _ (pv 2)) rfl (Or.inl rfl))
  refine (@z03 _ _ _ _ _ _ ?_ ?_)
  ·refine (@z2O _ _ _ _ _ _ _ _ _ PassesOwn.never rfl ?_ ?_ ?_ (by intro _; rfl))
   ·exact (@z3q _ _ _ _ _ (@z01 _ _ _ _ (pv 3)))
   ·exact (@z0t _ _ _ ([]) (5) _ hnp sc__law_due_of.nd rfl (by first | exact Or.inl rfl | exact Or.inr rfl) (Or.inl rfl))
   ·refine (@z03 _ _ _ _ _ _ ?_ ?_)
    ·refine (@z2b _ _ _ _ _ _ _ _ _ ?_ ?_ ?_)
     ·exact (@z1i _ _ _ _ _ (@z1G _ _ _ _ (@z0c _ _ _ _ _ (3) _ _ _ _ _ k__law_step_due z4p (hr.mono (by decide)) rfl (@z00 _ _ _ _ _ _ (@z01 _ _ _ _ (pv 0)) (@z00 _ _ _ _ _ _ (@z01 _ _ _ _ (pv 4)) (@z00 _ _ _ _ _ _ (@z01 _ _ _ _ (pv 5)) (@z0j _ _) (by rfl)) (by rfl)) (by rfl)) rfl (by decide) (by rfl) (by rfl)) (by intro _; rfl)))
     ·refine (@z0e _ _ _ _ ?_)
      refine (@z0u _ _ _ _ _ ?_)
      exact (@z30 _ _ _ _ _)
     ·exact z1j
    refine (@z0e _ _ _ _ ?_)
    exact (@z0g _ _ _ _ _ _ ([]) (4) _ hnp sc__law_due_of.nd rfl (by first | exact Or.inl rfl | exact Or.inr rfl) (@z0l _ _ _ _ _ _ _ _ _ z0k z0A (pv 5) (@z08 _ _ _ _ (@z04 _ _ _ _ _)) (fun _ _=>rfl)) rfl (Or.inl rfl))
  refine (@z0e _ _ _ _ ?_)
  refine (@z0u _ _ _ _ _ ?_)
  exact (@z3N _ _ _ _ _ _ _ _ _ _ (z3k hq) z4O (pv 4) (@z08 _ _ _ _ (@z0G _ _ _ _ _ _ (@z02 _ _ _ _ _ _ (@z01 _ _ _ _ (pv 1)) (@z0s _ _) (by rfl)) (by decide))) (z1a _))) fun ss y h=>z0B h
/-! ### _law_right -/
def z44:DS:=(dSeq (dAsg (z05 z1t [.val (eVar 0),.val (eVar 1),.val (eVar 2),.val (eVar 3)]) (gNm [] 4)) (dSeq (dAsg (z05 z16 [.val (eVar 0),.val (eVar 1),.val (eVar 2),.val (eVar 3)]) (gNm [] 5)) (dRet (eAnd (eIsi "bool" (bVar 5)) (eAnd (eOpF pEq 5 (bVar 4)) (eOp pEq (z05 z16 [.val (eVar 0),.val (eVar 1),.val (eVar 2),.val (eVar 3)]) (bVar 4)))))))
def z1b:DF:=gOf [] 6 z44
theorem z2X:z1N z1b:=z0o
theorem sc__law_right:FnScope ["rule","tile","floor","thing","due","found"] ["rule","tile","floor","thing"] (z06 z2n):=⟨rfl,rfl,rfl,by decide +kernel,rfl,by decide +kernel,by decide +kernel⟩
theorem z7f {P:Program} {w:World} {K:PySem.W.Frag} {mg:Str→Option Value} {base:Heap} {f:Addr} {fd:FuncData} (F:Fun K "_law_right" "_law_right" z2n f fd) (hm:mg "_law_right" = some (.ref f)) (hb:Binds K fd ["rule","tile","floor","thing"] []) (T:Txt K mg) (k_way_holds:KFn P w K mg base 4 "way_holds" 4 z16) (k__law_due_of:KFn P w K mg base 4 "_law_due_of" 4 z1t):KFn P w K mg base 5 "_law_right" 4 z1b :=
 z15 (np:=[]) (fb:=z44) F hm hb sc__law_right (fun c cdv A outer s H E hr hnp=>by
  have hq:=z22 hr
  refine (@z03 _ _ _ _ _ _ ?_ ?_)
  ·exact (@z0g _ _ _ _ _ _ ([]) (4) _ hnp sc__law_right.nd rfl (by first | exact Or.inl rfl | exact Or.inr rfl) (@z0c _ _ _ _ _ (4) _ _ _ _ _ k__law_due_of z5e (hr.mono (by decide)) rfl (@z00 _ _ _ _ _ _ (@z01 _ _ _ _ (pv 0)) (@z00 _ _ _ _ _ _ (@z01 _ _ _ _ (pv 1)) (@z00 _ _ _ _ _ _ (@z01 _ _ _ _ (pv 2)) (@z00 _ _ _ _ _ _ (@z01 _ _ _ _ (pv 3)) (@z0j _ _) (by rfl)) (by rfl)) (by rfl)) (by rfl)) rfl (by decide) (by rfl) (by rfl)) rfl (Or.inl rfl))
  refine (@z03 _ _ _ _ _ _ ?_ ?_)
  ·exact (@z0g _ _ _ _ _ _ ([]) (5) _ hnp sc__law_right.nd rfl (by first | exact Or.inl rfl | exact Or.inr rfl) (@z0c _ _ _ _ _ (4) _ _ _ _ _ k_way_holds z3a (hr.mono (by decide)) rfl (@z00 _ _ _ _ _ _ (@z01 _ _ _ _ (pv 0)) (@z00 _ _ _ _ _ _ (@z01 _ _ _ _ (pv 1)) (@z00 _ _ _ _ _ _ (@z01 _ _ _ _ (pv 2)) (@z00 _ _ _ _ _ _ (@z01 _ _ _ _ (pv 3)) (@z0j _ _) (by rfl)) (by rfl)) (by rfl)) (by rfl)) rfl (by decide) (by rfl) (by rfl)) rfl (Or.inl rfl))
  refine (@z0e _ _ _ _ ?_)
  refine (@z0u _ _ _ _ _ ?_)
  exact (@z5L _ _ _ _ _ _ _ _ (@z36 _ _ _ _ _ _ _ _ _ T.ty_bool rfl T.z_isinstance rfl T.z_bool boot_bool (@z0a _ _ _ _ (pv 5)) (by decide) (by decide) (by rfl) (by rfl)) (@z5L _ _ _ _ _ _ _ _ (@z3N _ _ _ _ _ _ _ _ _ _ (z3k hq) z4O (pv 5) (@z0a _ _ _ _ (pv 4)) (z1a _)) (@z7L _ _ _ _ _ _ (@z7O _ _ _ _ _ _ _ _ _ _ (z3k hq) z4O (@z0c _ _ _ _ _ (4) _ _ _ _ _ k_way_holds z3a (hr.mono (by decide)) rfl (@z00 _ _ _ _ _ _ (@z01 _ _ _ _ (pv 0)) (@z00 _ _ _ _ _ _ (@z01 _ _ _ _ (pv 1)) (@z00 _ _ _ _ _ _ (@z01 _ _ _ _ (pv 2)) (@z00 _ _ _ _ _ _ (@z01 _ _ _ _ (pv 3)) (@z0j _ _) (by rfl)) (by rfl)) (by rfl)) (by rfl)) rfl (by decide) (by rfl) (by rfl)) (@z0a _ _ _ _ (pv 4)) (z1a _)))))) fun ss y h=>z0B h
/-! ### _law_some_floor -/
def z2H:DS:=(dSeq (dAsg (z05 z0q [.val (eVar 1)]) (gNm [0] 4)) (dSeq (dAsg (eLst aNil) (gNm [0] 5)) (dSeq (dFor (z0S (eVar 2)) (gNm [0] 6) (z0W 5 (eC1 (z2t []) (bOf (z28 [7] (z0S (eVar 3)) (gNm [0] 7) dYes (eOpF pIx 4 (bOf (z05 z0d [.io 0,.val (eC1 pLen (bVar 4))])))))))) (dRet (eC1 z1Q (bVar 5))))))
def z0I:DF:=gOf [0] 8 z2H
theorem z3S:z1N z0I:=z0o
theorem sc__law_some_floor:FnScope ["pen","rule","high","wide","tiles","found","row","column"] ["pen","rule","high","wide"] (z06 z1e):=⟨rfl,rfl,rfl,by decide +kernel,rfl,by decide +kernel,by decide +kernel⟩
theorem z4L {P:Program} {w:World} {K:PySem.W.Frag} {mg:Str→Option Value} {base:Heap} {f:Addr} {fd:FuncData} (F:Fun K "_law_some_floor" "_law_some_floor" z1e f fd) (hm:mg "_law_some_floor" = some (.ref f)) (hb:Binds K fd ["pen","rule","high","wide"] []) (T:Txt K mg) (k__law_draw:KFn P w K mg base 2 "_law_draw" 2 z0d) (k__law_tiles_of:KFn P w K mg base 1 "_law_tiles_of" 1 z0q):KFn P w K mg base 3 "_law_some_floor" 4 z0I :=
 z15 (np:=[0]) (fb:=z2H) F hm hb sc__law_some_floor (fun c cdv A outer s H E hr hnp=>by
  have hq:=z22 hr
  refine (@z03 _ _ _ _ _ _ ?_ ?_)
  ·exact (@z0g _ _ _ _ _ _ ([0]) (4) _ hnp sc__law_some_floor.nd rfl (by first | exact Or.inl rfl | exact Or.inr rfl) (@z0c _ _ _ _ _ (1) _ _ _ _ _ k__law_tiles_of z2h (hr.mono (by decide)) rfl (@z00 _ _ _ _ _ _ (@z01 _ _ _ _ (pv 1)) (@z0j _ _) (by rfl)) rfl (by decide) (by rfl) (by rfl)) rfl (Or.inl rfl))
  refine (@z03 _ _ _ _ _ _ ?_ ?_)
  ·exact (@z0g _ _ _ _ _ _ ([0]) (5) _ hnp sc__law_some_floor.nd rfl (by first | exact Or.inl rfl | exact Or.inr rfl) (@z2Z _ _ _ _ _ (@z0s _ _) (by decide)) rfl (Or.inl rfl))
  refine (@z03 _ _ _ _ _ _ ?_ ?_)
  ·refine (@z2O _ _ _ _ _ _ _ _ _ PassesOwn.never rfl ?_ ?_ ?_ (by intro _; rfl))
   ·exact (@z2c _ _ _ _ _ _ _ rfl T.z_range (@z01 _ _ _ _ (pv 2)) (by rfl))
   ·exact (@z0t _ _ _ ([0]) (6) _ hnp sc__law_some_floor.nd rfl (by first | exact Or.inl rfl | exact Or.inr rfl) (Or.inl rfl))
   ·refine (@z0e _ _ _ _ ?_)
    exact (@z3w _ _ _ _ _ _ _ _ _ (pv 5) (@z5K _ _ _ _ _ _ _ _ _ [] (@z08 _ _ _ _ (@z2U _ _ ([7]) _ _ _ _ _ _ _ _ _ _ rfl (@z1o _ _ _ rfl rfl) (@z2c _ _ _ _ _ _ _ rfl T.z_range (@z01 _ _ _ _ (pv 3)) (by rfl)) (fun l s0 H0 ex=>(@z1K _ _ _ _ ([0]) (7) _ hnp sc__law_some_floor.nd rfl (by first | exact Or.inl rfl | exact Or.inr rfl) (by first | exact Or.inl rfl | exact Or.inr rfl) (by decide))) (fun l s0 H0 ex=>(@z2r _ _)) (fun l s0 H0 ex=>(@z0l _ _ _ _ _ _ _ _ _ z0k z0A (pv 4) (@z08 _ _ _ _ (@z0c _ _ _ _ _ (2) _ _ _ _ _ k__law_draw z0n (hr.mono (by decide)) rfl (@z2a _ _ _ _ _ _ (pv 0) (@z00 _ _ _ _ _ _ (@z13 _ _ _ _ _ _ rfl T.z_len (@z0a _ _ _ _ (pv 4)) (by rfl)) (@z0j _ _) (by rfl)) (by rfl)) rfl (by decide) (by rfl) (by rfl))) (fun _ _=>rfl))) (z3m hnp rfl) (by intro _; rfl))) (by decide +kernel) (by rfl) (by rfl) (by rfl) (by rfl)) (by rfl) (by rfl) (by rfl) (by rfl) (by rfl))
  refine (@z0e _ _ _ _ ?_)
  refine (@z0u _ _ _ _ _ ?_)
  exact (@z3j _ _ _ _ _ _ rfl T.z_tuple (@z0a _ _ _ _ (pv 5)) (by rfl))) fun ss y h=>z0B h
/-! ### _law_odd_of -/
abbrev B0_:DS:=dSeq (dAsg (eLst (z09 (eTup (z09 (eOpF pAdd 5 (bOf (eD (.int 1)))) (z09 (eVar 6) (z09 (eVar 7) aNil)))) (z09 (eTup (z09 (eVar 5) (z09 (eOpF pAdd 6 (bOf (eD (.int 1)))) (z09 (eVar 7) aNil)))) (z09 (eTup (z09 (eOpF pSub 5 (bOf (eD (.int 1)))) (z09 (eVar 6) (z09 (eVar 7) aNil)))) aNil)))) (gNm [0] 9)) (dSeq (dAsg (eOpF pAdd 9 (bOf (eLst (z09 (eTup (z09 (eVar 5) (z09 (eVar 6) (z09 (eVar 8) aNil)))) (z09 (eTup (z09 (eVar 5) (z09 (eVar 6) aNil))) (z09 (eTup (z09 (eVar 5) (z09 (eVar 6) (z09 (eVar 7) (z09 (eD (.int 0)) aNil))))) aNil)))))) (gNm [0] 9)) (dSeq (dAsg (eOpF pAdd 9 (bOf (eLst (z09 (eTup (z09 (eVar 5) (z09 (eVar 6) (z09 (eOpF pAdd 7 (bOf (eSlN 7 z38 (z19 (eD (.int 1)))))) aNil)))) (z09 (eTup (z09 (eVar 5) (z09 (eVar 6) (z09 (eC1 z1Q (bOf (z28 [11] (iSq (eVar 7)) (gNm [0] 11) dYes (eOpF pAdd 11 (bOf (eOpF pIx 11 (bOf (eD (.int 0))))))))) aNil)))) (z09 (eTup (z09 (eVar 6) (z09 (eVar 5) (z09 (eVar 7) aNil)))) aNil)))))) (gNm [0] 9)) (dSeq (dAsg (eOpF pAdd 9 (bOf (eLst (z09 (eTup (z09 (eVar 5) (z09 (eVar 6) (z09 (eC1 z4J (bVar 7)) aNil)))) (z09 (eTup (z09 (eOpF pEq 5 (bOf (eD (.int 1)))) (z09 (eVar 6) (z09 (eVar 7) aNil)))) (z09 (eTup (z09 (eVar 5) (z09 (eD .non) (z09 (eVar 7) aNil)))) aNil)))))) (gNm [0] 9)) (dSeq (dAsg (eOpF pAdd 9 (bOf (eLst (z09 (eLst (z09 (eVar 5) (z09 (eVar 6) (z09 (eVar 7) aNil)))) (z09 (eD .non) (z09 (eTup (z09 (eVar 5) (z09 (eVar 6) (z09 (eD (.tup [.str [65]])) aNil)))) aNil)))))) (gNm [0] 9)) (dSeq (dAsg (eOpF pAdd 9 (bOf (eLst (z09 (eTup (z09 (eVar 5) (z09 (eVar 6) (z09 (eTup aNil) aNil)))) (z09 (eTup (z09 (eVar 5) (z09 (eVar 6) (z09 (eD .non) aNil)))) (z09 (eTup (z09 (eVar 5) (z09 (eVar 6) (z09 (eOpF pIx 7 (bOf (eD (.int 0)))) aNil)))) (z09 (eTup (z09 (eVar 5) (z09 (eOpF pEq 6 (bOf (eD (.int 1)))) (z09 (eVar 7) aNil)))) (z09 (eTup (z09 (eVar 5) (z09 (eVar 6) (z09 (eD (.tup [.str []])) aNil)))) aNil)))))))) (gNm [0] 9)) (dAsg (eOpF pAdd 3 (bOf (z28 [10] (iSq (eVar 9)) (gNm [0] 10) dYes (eOp pAdd (eOp pAdd (eSlN 2 z38 (z19 (eVar 4))) (bOf (eTup (z09 (eVar 10) aNil)))) (bOf (eSlN 2 (z19 (eOpF pAdd 4 (bOf (eD (.int 1))))) z38)))))) (gNm [0] 3)))))))
def z3H:DS:=(dSeq (dAsg (eLst (z09 (eC1 z4J (bVar 2)) (z09 (eD .non) (z09 (eTup aNil) (z09 (eC1 z5S (bVar 2)) (z09 (eOpF pAdd 2 (bOf (eSlN 2 z38 (z19 (eD (.int 1)))))) (z09 (eD (.str [])) (z09 (eD (.int 0)) (z09 (eSlN 2 (z19 (eD (.int 1))) z38) (z09 (eSlN 2 z38 (z19 (eC1 pNeg (bOf (eD (.int 1)))))) (z09 (eD (.tup [.tup []])) (z09 (eD (.tup [.non])) (z09 z8k aNil))))))))))))) (gNm [0] 3)) (dSeq (dIf (dTr (eOpF pNe 2 (bOf (eTup aNil)))) (dSeq (dAsg (z05 z0d [.io 0,.val (eC1 pLen (bVar 2))]) (gNm [0] 4)) (dSeq (dAsg (eOpF pIx 2 (bVar 4)) (gTp 3 (z0i (gNm [0] 5) (z0i (gNm [0] 6) (z0i (gNm [0] 7) z1F))))) (dSeq (dAsg (z05 z0I [.io 0,.val (eVar 1),.val (eC1 pLen (bVar 7)),.val (eC1 pLen (bOf (eOpF pIx 7 (bOf (eD (.int 0))))))]) (gNm [0] 8)) (B0_)))) z0N) (dRet (eOpF pIx 3 (bOf (z05 z0d [.io 0,.val (eC1 pLen (bVar 3))]))))))
def z1s:DF:=gOf [0] 12 z3H
theorem z5d:z1N z1s:=z0o
theorem sc__law_odd_of:FnScope ["pen","rule","way","some","spot","i","j","lesser","other","odd","one","row"] ["pen","rule","way"] (z06 z26):=⟨rfl,rfl,rfl,by decide +kernel,rfl,by decide +kernel,by decide +kernel⟩
theorem z6m {P:Program} {w:World} {K:PySem.W.Frag} {mg:Str→Option Value} {base:Heap} {f:Addr} {fd:FuncData} (F:Fun K "_law_odd_of" "_law_odd_of" z26 f fd) (hm:mg "_law_odd_of" = some (.ref f)) (hb:Binds K fd ["pen","rule","way"] []) (T:Txt K mg) (k__law_draw:KFn P w K mg base 2 "_law_draw" 2 z0d) (k__law_some_floor:KFn P w K mg base 3 "_law_some_floor" 4 z0I):KFn P w K mg base 4 "_law_odd_of" 3 z1s :=
 z15 (np:=[0]) (fb:=z3H) F hm hb sc__law_odd_of (fun c cdv A outer s H E hr hnp=>by
  have hq:=z22 hr
  refine (@z03 _ _ _ _ _ _ ?_ ?_)
  ·exact (@z0g _ _ _ _ _ _ ([0]) (3) _ hnp sc__law_odd_of.nd rfl (by first | exact Or.inl rfl | exact Or.inr rfl) (@z2Z _ _ _ _ _ (@z02 _ _ _ _ _ _ (@z93 _ _ _ _ _ _ rfl rfl T.z_list (@z0a _ _ _ _ (pv 2)) (by rfl)) (@z02 _ _ _ _ _ _ (@z7M _ _ _ _) (@z02 _ _ _ _ _ _ (@z0G _ _ _ _ _ _ (@z0s _ _) (by decide)) (@z02 _ _ _ _ _ _ (@za7 _ _ _ _ _ _ _ (@z0a _ _ _ _ (pv 2)) (@z8b _ _ _ _)) (@z02 _ _ _ _ _ _ (@z0E _ _ _ _ _ _ _ _ _ _ z0m z0w (pv 2) (@z08 _ _ _ _ (@z3x _ _ _ _ _ _ _ _ _ _ (pv 2) (@z3M _ _) (@z1x _ _ _ _ (@z04 _ _ _ _ _))))) (@z02 _ _ _ _ _ _ (@z6E _ _ _ _ _ [] (by decide +kernel)) (@z02 _ _ _ _ _ _ (@z04 _ _ _ _ _) (@z02 _ _ _ _ _ _ (@z3x _ _ _ _ _ _ _ _ _ _ (pv 2) (@z1x _ _ _ _ (@z04 _ _ _ _ _)) (@z3M _ _)) (@z02 _ _ _ _ _ _ (@z3x _ _ _ _ _ _ _ _ _ _ (pv 2) (@z3M _ _) (@z1x _ _ _ _ (@zc6 _ _ _ _ _ (@z08 _ _ _ _ (@z04 _ _ _ _ _))))) (@z02 _ _ _ _ _ _ (@z4E _ _ _ _ (by rfl)) (@z02 _ _ _ _ _ _ (@z4E _ _ _ _ (by rfl)) (@z02 _ _ _ _ _ _ (@zbu _ _ _) (@z0s _ _) (by rfl)) (by rfl)) (by rfl)) (by rfl)) (by rfl)) (by rfl)) (by rfl)) (by rfl)) (by rfl)) (by rfl)) (by rfl)) (by rfl)) (by decide)) rfl (Or.inl rfl))
  refine (@z03 _ _ _ _ _ _ ?_ ?_)
  ·refine (@z2b _ _ _ _ _ _ _ _ _ ?_ ?_ ?_)
   ·exact (@z5J _ _ _ _ _ _ _ _ _ _ (z4g hq) z6o (pv 2) (@z08 _ _ _ _ (@z0G _ _ _ _ _ _ (@z0s _ _) (by decide))) (z1a _))
   ·refine (@z03 _ _ _ _ _ _ ?_ ?_)
    ·exact (@z0g _ _ _ _ _ _ ([0]) (4) _ hnp sc__law_odd_of.nd rfl (by first | exact Or.inl rfl | exact Or.inr rfl) (@z0c _ _ _ _ _ (2) _ _ _ _ _ k__law_draw z0n (hr.mono (by decide)) rfl (@z2a _ _ _ _ _ _ (pv 0) (@z00 _ _ _ _ _ _ (@z13 _ _ _ _ _ _ rfl T.z_len (@z0a _ _ _ _ (pv 2)) (by rfl)) (@z0j _ _) (by rfl)) (by rfl)) rfl (by decide) (by rfl) (by rfl)) rfl (Or.inl rfl))
    refine (@z03 _ _ _ _ _ _ ?_ ?_)
    ·refine (@z5h _ _ _ _ _ _ _ ?_ ?_ (by rfl) (by rfl) (by rfl))
     ·exact (@z0l _ _ _ _ _ _ _ _ _ z0k z0A (pv 2) (@z0a _ _ _ _ (pv 4)) (fun _ _=>rfl))
     ·exact (@z4C _ _ _ _ _ _ _ rfl (@z0D _ _ _ _ _ _ (@z0t _ _ _ ([0]) (5) _ hnp sc__law_odd_of.nd rfl (by first | exact Or.inl rfl | exact Or.inr rfl) (Or.inl rfl)) (@z0D _ _ _ _ _ _ (@z0t _ _ _ ([0]) (6) _ hnp sc__law_odd_of.nd rfl (by first | exact Or.inl rfl | exact Or.inr rfl) (Or.inl rfl)) (@z0D _ _ _ _ _ _ (@z0t _ _ _ ([0]) (7) _ hnp sc__law_odd_of.nd rfl (by first | exact Or.inl rfl | exact Or.inr rfl) (Or.inl rfl)) (@z3B _ _) (by rfl)) (by rfl)) (by rfl)) (by rfl) (by rfl))
    refine (@z03 _ _ _ _ _ _ ?_ ?_)
    ·exact (@z0g _ _ _ _ _ _ ([0]) (8) _ hnp sc__law_odd_of.nd rfl (by first | exact Or.inl rfl | exact Or.inr rfl) (@z0c _ _ _ _ _ (3) _ _ _ _ _ k__law_some_floor z3S (hr.mono (by decide)) rfl (@z2a _ _ _ _ _ _ (pv 0) (@z00 _ _ _ _ _ _ (@z01 _ _ _ _ (pv 1)) (@z00 _ _ _ _ _ _ (@z13 _ _ _ _ _ _ rfl T.z_len (@z0a _ _ _ _ (pv 7)) (by rfl)) (@z00 _ _ _ _ _ _ (@z13 _ _ _ _ _ _ rfl T.z_len (@z08 _ _ _ _ (@z0l _ _ _ _ _ _ _ _ _ z0k z0A (pv 7) (@z08 _ _ _ _ (@z04 _ _ _ _ _)) (fun _ _=>rfl))) (by rfl)) (@z0j _ _) (by rfl)) (by rfl)) (by rfl)) (by rfl)) rfl (by decide) (by rfl) (by rfl)) rfl (Or.inl rfl))
    refine (@z03 _ _ _ _ _ _ ?_ ?_)
    ·exact (@z0g _ _ _ _ _ _ ([0]) (9) _ hnp sc__law_odd_of.nd rfl (by first | exact Or.inl rfl | exact Or.inr rfl) (@z2Z _ _ _ _ _ (@z02 _ _ _ _ _ _ (@z0G _ _ _ _ _ _ (@z02 _ _ _ _ _ _ (@z0E _ _ _ _ _ _ _ _ _ _ z0m z0w (pv 5) (@z08 _ _ _ _ (@z04 _ _ _ _ _))) (@z02 _ _ _ _ _ _ (@z01 _ _ _ _ (pv 6)) (@z02 _ _ _ _ _ _ (@z01 _ _ _ _ (pv 7)) (@z0s _ _) (by rfl)) (by rfl)) (by rfl)) (by decide)) (@z02 _ _ _ _ _ _ (@z0G _ _ _ _ _ _ (@z02 _ _ _ _ _ _ (@z01 _ _ _ _ (pv 5)) (@z02 _ _ _ _ _ _ (@z0E _ _ _ _ _ _ _ _ _ _ z0m z0w (pv 6) (@z08 _ _ _ _ (@z04 _ _ _ _ _))) (@z02 _ _ _ _ _ _ (@z01 _ _ _ _ (pv 7)) (@z0s _ _) (by rfl)) (by rfl)) (by rfl)) (by decide)) (@z02 _ _ _ _ _ _ (@z0G _ _ _ _ _ _ (@z02 _ _ _ _ _ _ (@z0E _ _ _ _ _ _ _ _ _ _ z1R z1S (pv 5) (@z08 _ _ _ _ (@z04 _ _ _ _ _))) (@z02 _ _ _ _ _ _ (@z01 _ _ _ _ (pv 6)) (@z02 _ _ _ _ _ _ (@z01 _ _ _ _ (pv 7)) (@z0s _ _) (by rfl)) (by rfl)) (by rfl)) (by decide)) (@z0s _ _) (by rfl)) (by rfl)) (by rfl)) (by decide)) rfl (Or.inl rfl))
    refine (@z03 _ _ _ _ _ _ ?_ ?_)
    ·exact (@z0g _ _ _ _ _ _ ([0]) (9) _ hnp sc__law_odd_of.nd rfl (by first | exact Or.inl rfl | exact Or.inr rfl) (@z0E _ _ _ _ _ _ _ _ _ _ z0m z0w (pv 9) (@z08 _ _ _ _ (@z2Z _ _ _ _ _ (@z02 _ _ _ _ _ _ (@z0G _ _ _ _ _ _ (@z02 _ _ _ _ _ _ (@z01 _ _ _ _ (pv 5)) (@z02 _ _ _ _ _ _ (@z01 _ _ _ _ (pv 6)) (@z02 _ _ _ _ _ _ (@z01 _ _ _ _ (pv 8)) (@z0s _ _) (by rfl)) (by rfl)) (by rfl)) (by decide)) (@z02 _ _ _ _ _ _ (@z0G _ _ _ _ _ _ (@z02 _ _ _ _ _ _ (@z01 _ _ _ _ (pv 5)) (@z02 _ _ _ _ _ _ (@z01 _ _ _ _ (pv 6)) (@z0s _ _) (by rfl)) (by rfl)) (by decide)) (@z02 _ _ _ _ _ _ (@z0G _ _ _ _ _ _ (@z02 _ _ _ _ _ _ (@z01 _ _ _ _ (pv 5)) (@z02 _ _ _ _ _ _ (@z01 _ _ _ _ (pv 6)) (@z02 _ _ _ _ _ _ (@z01 _ _ _ _ (pv 7)) (@z02 _ _ _ _ _ _ (@z04 _ _ _ _ _) (@z0s _ _) (by rfl)) (by rfl)) (by rfl)) (by rfl)) (by decide)) (@z0s _ _) (by rfl)) (by rfl)) (by rfl)) (by decide)))) rfl (Or.inl rfl))
    refine (@z03 _ _ _ _ _ _ ?_ ?_)
    ·exact (@z0g _ _ _ _ _ _ ([0]) (9) _ hnp sc__law_odd_of.nd rfl (by first | exact Or.inl rfl | exact Or.inr rfl) (@z0E _ _ _ _ _ _ _ _ _ _ z0m z0w (pv 9) (@z08 _ _ _ _ (@z2Z _ _ _ _ _ (@z02 _ _ _ _ _ _ (@z0G _ _ _ _ _ _ (@z02 _ _ _ _ _ _ (@z01 _ _ _ _ (pv 5)) (@z02 _ _ _ _ _ _ (@z01 _ _ _ _ (pv 6)) (@z02 _ _ _ _ _ _ (@z0E _ _ _ _ _ _ _ _ _ _ z0m z0w (pv 7) (@z08 _ _ _ _ (@z3x _ _ _ _ _ _ _ _ _ _ (pv 7) (@z3M _ _) (@z1x _ _ _ _ (@z04 _ _ _ _ _))))) (@z0s _ _) (by rfl)) (by rfl)) (by rfl)) (by decide)) (@z02 _ _ _ _ _ _ (@z0G _ _ _ _ _ _ (@z02 _ _ _ _ _ _ (@z01 _ _ _ _ (pv 5)) (@z02 _ _ _ _ _ _ (@z01 _ _ _ _ (pv 6)) (@z02 _ _ _ _ _ _ (@z3j _ _ _ _ _ _ rfl T.z_tuple (@z08 _ _ _ _ (@z2U _ _ ([11]) _ _ _ _ _ _ _ _ _ _ rfl (@z1o _ _ _ rfl rfl) (@z3q _ _ _ _ _ (@z01 _ _ _ _ (pv 7))) (fun l s0 H0 ex=>(@z1K _ _ _ _ ([0]) (11) _ hnp sc__law_odd_of.nd rfl (by first | exact Or.inl rfl | exact Or.inr rfl) (by first | exact Or.inl rfl | exact Or.inr rfl) (by decide))) (fun l s0 H0 ex=>(@z2r _ _)) (fun l s0 H0 ex=>(@z0E _ _ _ _ _ _ _ _ _ _ z0m z0w (pv 11) (@z08 _ _ _ _ (@z0l _ _ _ _ _ _ _ _ _ z0k z0A (pv 11) (@z08 _ _ _ _ (@z04 _ _ _ _ _)) (fun _ _=>rfl))))) (z3m hnp rfl) (by intro _; rfl))) (by rfl)) (@z0s _ _) (by rfl)) (by rfl)) (by rfl)) (by decide)) (@z02 _ _ _ _ _ _ (@z0G _ _ _ _ _ _ (@z02 _ _ _ _ _ _ (@z01 _ _ _ _ (pv 6)) (@z02 _ _ _ _ _ _ (@z01 _ _ _ _ (pv 5)) (@z02 _ _ _ _ _ _ (@z01 _ _ _ _ (pv 7)) (@z0s _ _) (by rfl)) (by rfl)) (by rfl)) (by decide)) (@z0s _ _) (by rfl)) (by rfl)) (by rfl)) (by decide)))) rfl (Or.inl rfl))
    refine (@z03 _ _ _ _ _ _ ?_ ?_)
    ·exact (@z0g _ _ _ _ _ _ ([0]) (9) _ hnp sc__law_odd_of.nd rfl (by first | exact Or.inl rfl | exact Or.inr rfl) (@z0E _ _ _ _ _ _ _ _ _ _ z0m z0w (pv 9) (@z08 _ _ _ _ (@z2Z _ _ _ _ _ (@z02 _ _ _ _ _ _ (@z0G _ _ _ _ _ _ (@z02 _ _ _ _ _ _ (@z01 _ _ _ _ (pv 5)) (@z02 _ _ _ _ _ _ (@z01 _ _ _ _ (pv 6)) (@z02 _ _ _ _ _ _ (@z93 _ _ _ _ _ _ rfl rfl T.z_list (@z0a _ _ _ _ (pv 7)) (by rfl)) (@z0s _ _) (by rfl)) (by rfl)) (by rfl)) (by decide)) (@z02 _ _ _ _ _ _ (@z0G _ _ _ _ _ _ (@z02 _ _ _ _ _ _ (@z3N _ _ _ _ _ _ _ _ _ _ (z3k hq) z4O (pv 5) (@z08 _ _ _ _ (@z04 _ _ _ _ _)) (z1a _)) (@z02 _ _ _ _ _ _ (@z01 _ _ _ _ (pv 6)) (@z02 _ _ _ _ _ _ (@z01 _ _ _ _ (pv 7)) (@z0s _ _) (by rfl)) (by rfl)) (by rfl)) (by decide)) (@z02 _ _ _ _ _ _ (@z0G _ _ _ _ _ _ (@z02 _ _ _ _ _ _ (@z01 _ _ _ _ (pv 5)) (@z02 _ _ _ _ _ _ (@z7M _ _ _ _) (@z02 _ _ _ _ _ _ (@z01 _ _ _ _ (pv 7)) (@z0s _ _) (by rfl)) (by rfl)) (by rfl)) (by decide)) (@z0s _ _) (by rfl)) (by rfl)) (by rfl)) (by decide)))) rfl (Or.inl rfl))
    refine (@z03 _ _ _ _ _ _ ?_ ?_)
    ·exact (@z0g _ _ _ _ _ _ ([0]) (9) _ hnp sc__law_odd_of.nd rfl (by first | exact Or.inl rfl | exact Or.inr rfl) (@z0E _ _ _ _ _ _ _ _ _ _ z0m z0w (pv 9) (@z08 _ _ _ _ (@z2Z _ _ _ _ _ (@z02 _ _ _ _ _ _ (@z2Z _ _ _ _ _ (@z02 _ _ _ _ _ _ (@z01 _ _ _ _ (pv 5)) (@z02 _ _ _ _ _ _ (@z01 _ _ _ _ (pv 6)) (@z02 _ _ _ _ _ _ (@z01 _ _ _ _ (pv 7)) (@z0s _ _) (by rfl)) (by rfl)) (by rfl)) (by decide)) (@z02 _ _ _ _ _ _ (@z7M _ _ _ _) (@z02 _ _ _ _ _ _ (@z0G _ _ _ _ _ _ (@z02 _ _ _ _ _ _ (@z01 _ _ _ _ (pv 5)) (@z02 _ _ _ _ _ _ (@z01 _ _ _ _ (pv 6)) (@z02 _ _ _ _ _ _ (@z4E _ _ _ _ (by rfl)) (@z0s _ _) (by rfl)) (by rfl)) (by rfl)) (by decide)) (@z0s _ _) (by rfl)) (by rfl)) (by rfl)) (by decide)))) rfl (Or.inl rfl))
    refine (@z03 _ _ _ _ _ _ ?_ ?_)
    ·exact (@z0g _ _ _ _ _ _ ([0]) (9) _ hnp sc__law_odd_of.nd rfl (by first | exact Or.inl rfl | exact Or.inr rfl) (@z0E _ _ _ _ _ _ _ _ _ _ z0m z0w (pv 9) (@z08 _ _ _ _ (@z2Z _ _ _ _ _ (@z02 _ _ _ _ _ _ (@z0G _ _ _ _ _ _ (@z02 _ _ _ _ _ _ (@z01 _ _ _ _ (pv 5)) (@z02 _ _ _ _ _ _ (@z01 _ _ _ _ (pv 6)) (@z02 _ _ _ _ _ _ (@z0G _ _ _ _ _ _ (@z0s _ _) (by decide)) (@z0s _ _) (by rfl)) (by rfl)) (by rfl)) (by decide)) (@z02 _ _ _ _ _ _ (@z0G _ _ _ _ _ _ (@z02 _ _ _ _ _ _ (@z01 _ _ _ _ (pv 5)) (@z02 _ _ _ _ _ _ (@z01 _ _ _ _ (pv 6)) (@z02 _ _ _ _ _ _ (@z7M _ _ _ _) (@z0s _ _) (by rfl)) (by rfl)) (by rfl)) (by decide)) (@z02 _ _ _ _ _ _ (@z0G _ _ _ _ _ _ (@z02 _ _ _ _ _ _ (@z01 _ _ _ _ (pv 5)) (@z02 _ _ _ _ _ _ (@z01 _ _ _ _ (pv 6)) (@z02 _ _ _ _ _ _ (@z0l _ _ _ _ _ _ _ _ _ z0k z0A (pv 7) (@z08 _ _ _ _ (@z04 _ _ _ _ _)) (fun _ _=>rfl)) (@z0s _ _) (by rfl)) (by rfl)) (by rfl)) (by decide)) (@z02 _ _ _ _ _ _ (@z0G _ _ _ _ _ _ (@z02 _ _ _ _ _ _ (@z01 _ _ _ _ (pv 5)) (@z02 _ _ _ _ _ _ (@z3N _ _ _ _ _ _ _ _ _ _ (z3k hq) z4O (pv 6) (@z08 _ _ _ _ (@z04 _ _ _ _ _)) (z1a _)) (@z02 _ _ _ _ _ _ (@z01 _ _ _ _ (pv 7)) (@z0s _ _) (by rfl)) (by rfl)) (by rfl)) (by decide)) (@z02 _ _ _ _ _ _ (@z0G _ _ _ _ _ _ (@z02 _ _ _ _ _ _ (@z01 _ _ _ _ (pv 5)) (@z02 _ _ _ _ _ _ (@z01 _ _ _ _ (pv 6)) (@z02 _ _ _ _ _ _ (@z4E _ _ _ _ (by rfl)) (@z0s _ _) (by rfl)) (by rfl)) (by rfl)) (by decide)) (@z0s _ _) (by rfl)) (by rfl)) (by rfl)) (by rfl)) (by rfl)) (by decide)))) rfl (Or.inl rfl))
    refine (@z0e _ _ _ _ ?_)
    exact (@z0g _ _ _ _ _ _ ([0]) (3) _ hnp sc__law_odd_of.nd rfl (by first | exact Or.inl rfl | exact Or.inr rfl) (@z0E _ _ _ _ _ _ _ _ _ _ z0m z0w (pv 3) (@z08 _ _ _ _ (@z2U _ _ ([10]) _ _ _ _ _ _ _ _ _ _ rfl (@z1o _ _ _ rfl rfl) (@z3q _ _ _ _ _ (@z01 _ _ _ _ (pv 9))) (fun l s0 H0 ex=>(@z1K _ _ _ _ ([0]) (10) _ hnp sc__law_odd_of.nd rfl (by first | exact Or.inl rfl | exact Or.inr rfl) (by first | exact Or.inl rfl | exact Or.inr rfl) (by decide))) (fun l s0 H0 ex=>(@z2r _ _)) (fun l s0 H0 ex=>(@z0H _ _ _ _ _ _ _ _ _ _ z0m z0w (@z0H _ _ _ _ _ _ _ _ _ _ z0m z0w (@z3x _ _ _ _ _ _ _ _ _ _ (pv 2) (@z3M _ _) (@z1x _ _ _ _ (@z01 _ _ _ _ (pv 4)))) (@z08 _ _ _ _ (@z0G _ _ _ _ _ _ (@z02 _ _ _ _ _ _ (@z01 _ _ _ _ (pv 10)) (@z0s _ _) (by rfl)) (by decide)))) (@z08 _ _ _ _ (@z3x _ _ _ _ _ _ _ _ _ _ (pv 2) (@z1x _ _ _ _ (@z0E _ _ _ _ _ _ _ _ _ _ z0m z0w (pv 4) (@z08 _ _ _ _ (@z04 _ _ _ _ _)))) (@z3M _ _))))) (z3m hnp rfl) (by intro _; rfl)))) rfl (Or.inl rfl))
   ·exact z1j
  refine (@z0e _ _ _ _ ?_)
  refine (@z0u _ _ _ _ _ ?_)
  exact (@z0l _ _ _ _ _ _ _ _ _ z0k z0A (pv 3) (@z08 _ _ _ _ (@z0c _ _ _ _ _ (2) _ _ _ _ _ k__law_draw z0n (hr.mono (by decide)) rfl (@z2a _ _ _ _ _ _ (pv 0) (@z00 _ _ _ _ _ _ (@z13 _ _ _ _ _ _ rfl T.z_len (@z0a _ _ _ _ (pv 3)) (by rfl)) (@z0j _ _) (by rfl)) (by rfl)) rfl (by decide) (by rfl) (by rfl))) (fun _ _=>rfl))) fun ss y h=>z0B h
/-! ### law -/
def zdv:DS:=(dSeq (dFor (iSq (eOp pAdd (eLst (z09 (z05 z1c [.val (eVar 0),.val (eD (.int 0))]) aNil)) (bOf (eSlN 0 (z19 (eD (.int 1))) (z19 (eD (.int 4))))))) (gNm [] 1) (dSeq (dAsg (z05 z1r [.val (eVar 1)]) (gNm [] 2)) (dSeq (dAsg (z05 z0R [.io 2,.val (eD (.int 4))]) (gNm [] 3)) (dSeq (dAsg (z05 z0q [.val (eVar 3)]) (gNm [] 4)) (dSeq (dAsg (eOpF pIx 4 (bOf (z05 z0d [.io 2,.val (eC1 pLen (bVar 4))]))) (gNm [] 5)) (dSeq (dAsg (z05 z1J [.io 2,.val (eVar 3),.val (eVar 5)]) (gTp 3 (z0i (gNm [] 6) (z0i (gNm [] 7) (z0i (gNm [] 8) z1F))))) (dSeq (dIf (dOr (dTr (eOp (pIsB true) (z05 z16 [.val (eVar 3),.val (eVar 5),.val (eVar 6),.val (eVar 7)]) (bOf (eD (.bl true))))) (dTr (eOp pNe (z05 z1O [.val (eVar 3),.val (eVar 7)]) (bVar 8)))) (dRet (eD (.bl false))) z0N) (dSeq (dIf (dTr (eOp pNe (z05 z2T [.val (eVar 3),.val (eVar 5),.val (eOpF pIx 8 (bOf (eD (.int 0)))),.val (eOpF pIx 8 (bOf (eD (.int 1)))),.val (eOpF pIx 8 (bOf (eD (.int 2)))),.val (eC1 pLen (bVar 6)),.val (eC1 pLen (bOf (eOpF pIx 6 (bOf (eD (.int 0))))))]) (bVar 6))) (dRet (eD (.bl false))) z0N) (dSeq (dFor (z0S (eD (.int 4))) (gNm [] 9) (dIf (dNot (dTr (z05 z1b [.val (eVar 3),.val (eVar 5),.val (eVar 6),.val (z05 z1s [.io 2,.val (eVar 3),.val (eVar 7)])]))) (dRet (eD (.bl false))) z0N)) (dSeq (dIf (dOr (dNot (dTr (z05 z1b [.val (eVar 3),.val (eOpF pIx 4 (bOf (eD (.int 0)))),.val (eVar 6),.val (eVar 7)]))) (dNot (dTr (z05 z1b [.val (eVar 3),.val (eVar 5),.val (eTup (z09 (eOpF pIx 4 (bOf (eC1 pNeg (bOf (eD (.int 1)))))) aNil)),.val (eVar 7)])))) (dRet (eD (.bl false))) z0N) (dSeq (dAsg (z05 z1O [.val (eVar 3),.val (eVar 7)]) (gNm [] 10)) (dIf (dOr (dNot (dTr (eIsi "tuple" (bVar 10)))) (dNot (dTr (eC1 pAll (bOf (z28 [11] (iSq (eVar 10)) (gNm [] 11) dYes (z05 z0M [.val (eVar 11)]))))))) (dRet (eD (.bl false))) z0N)))))))))))) (dRet (eD (.bl true))))
def G_law:DF:=gOf [] 12 zdv
theorem zeJ:z1N G_law:=z0o
theorem sc_law:FnScope ["script","cell","pen","rule","tiles","tile","floor","way","place","turn","found","one"] ["script"] (z06 z70):=⟨rfl,rfl,rfl,by decide +kernel,rfl,by decide +kernel,by decide +kernel⟩
theorem zeu {P:Program} {w:World} {K:PySem.W.Frag} {mg:Str→Option Value} {base:Heap} {f:Addr} {fd:FuncData} (F:Fun K "law" "law" z70 f fd) (T:Txt K mg) (k__law_cell_at:KFn P w K mg base 1 "_law_cell_at" 2 z1c) (k__law_pen_of:KFn P w K mg base 1 "_law_pen_of" 1 z1r) (k__law_draw:KFn P w K mg base 2 "_law_draw" 2 z0d) (k__law_rule_by:KFn P w K mg base 3 "_law_rule_by" 2 z0R) (k__law_tiles_of:KFn P w K mg base 1 "_law_tiles_of" 1 z0q) (k__law_built:KFn P w K mg base 3 "_law_built" 3 z1J) (k_way_place:KFn P w K mg base 1 "way_place" 2 z1O) (k_way_holds:KFn P w K mg base 4 "way_holds" 4 z16) (k_cut_far:KFn P w K mg base 4 "cut_far" 7 z2T) (k__law_whole:KFn P w K mg base 1 "_law_whole" 1 z0M) (k__law_right:KFn P w K mg base 5 "_law_right" 4 z1b) (k__law_odd_of:KFn P w K mg base 4 "_law_odd_of" 3 z1s):FnOk P w K mg base CX0 6 f fd ["script"] (spD 1 G_law) :=
 zeR (np:=[]) (fb:=zdv) F sc_law (fun c cdv A outer s H E hr hnp=>by
  have hq:=z22 hr
  refine (@z03 _ _ _ _ _ _ ?_ ?_)
  ·refine (@z2O _ _ _ _ _ _ _ _ _ PassesOwn.never rfl ?_ ?_ ?_ (by intro _; rfl))
   ·exact (@z3q _ _ _ _ _ (@z0H _ _ _ _ _ _ _ _ _ _ z0m z0w (@z2Z _ _ _ _ _ (@z02 _ _ _ _ _ _ (@z0c _ _ _ _ _ (1) _ _ _ _ _ k__law_cell_at z4U (hr.mono (by decide)) rfl (@z00 _ _ _ _ _ _ (@z01 _ _ _ _ (pv 0)) (@z00 _ _ _ _ _ _ (@z04 _ _ _ _ _) (@z0j _ _) (by rfl)) (by rfl)) rfl (by decide) (by rfl) (by rfl)) (@z0s _ _) (by rfl)) (by decide)) (@z08 _ _ _ _ (@z3x _ _ _ _ _ _ _ _ _ _ (pv 0) (@z1x _ _ _ _ (@z04 _ _ _ _ _)) (@z1x _ _ _ _ (@z04 _ _ _ _ _))))))
   ·exact (@z0t _ _ _ ([]) (1) _ hnp sc_law.nd rfl (by first | exact Or.inl rfl | exact Or.inr rfl) (Or.inl rfl))
   ·refine (@z03 _ _ _ _ _ _ ?_ ?_)
    ·exact (@z0g _ _ _ _ _ _ ([]) (2) _ hnp sc_law.nd rfl (by first | exact Or.inl rfl | exact Or.inr rfl) (@z0c _ _ _ _ _ (1) _ _ _ _ _ k__law_pen_of z5c (hr.mono (by decide)) rfl (@z00 _ _ _ _ _ _ (@z01 _ _ _ _ (pv 1)) (@z0j _ _) (by rfl)) rfl (by decide) (by rfl) (by rfl)) rfl (Or.inl rfl))
    refine (@z03 _ _ _ _ _ _ ?_ ?_)
    ·exact (@z0g _ _ _ _ _ _ ([]) (3) _ hnp sc_law.nd rfl (by first | exact Or.inl rfl | exact Or.inr rfl) (@z0c _ _ _ _ _ (3) _ _ _ _ _ k__law_rule_by z4T (hr.mono (by decide)) rfl (@z2a _ _ _ _ _ _ (pv 2) (@z00 _ _ _ _ _ _ (@z04 _ _ _ _ _) (@z0j _ _) (by rfl)) (by rfl)) rfl (by decide) (by rfl) (by rfl)) rfl (Or.inl rfl))
    refine (@z03 _ _ _ _ _ _ ?_ ?_)
    ·exact (@z0g _ _ _ _ _ _ ([]) (4) _ hnp sc_law.nd rfl (by first | exact Or.inl rfl | exact Or.inr rfl) (@z0c _ _ _ _ _ (1) _ _ _ _ _ k__law_tiles_of z2h (hr.mono (by decide)) rfl (@z00 _ _ _ _ _ _ (@z01 _ _ _ _ (pv 3)) (@z0j _ _) (by rfl)) rfl (by decide) (by rfl) (by rfl)) rfl (Or.inl rfl))
    refine (@z03 _ _ _ _ _ _ ?_ ?_)
    ·exact (@z0g _ _ _ _ _ _ ([]) (5) _ hnp sc_law.nd rfl (by first | exact Or.inl rfl | exact Or.inr rfl) (@z0l _ _ _ _ _ _ _ _ _ z0k z0A (pv 4) (@z08 _ _ _ _ (@z0c _ _ _ _ _ (2) _ _ _ _ _ k__law_draw z0n (hr.mono (by decide)) rfl (@z2a _ _ _ _ _ _ (pv 2) (@z00 _ _ _ _ _ _ (@z13 _ _ _ _ _ _ rfl T.z_len (@z0a _ _ _ _ (pv 4)) (by rfl)) (@z0j _ _) (by rfl)) (by rfl)) rfl (by decide) (by rfl) (by rfl))) (fun _ _=>rfl)) rfl (Or.inl rfl))
    refine (@z03 _ _ _ _ _ _ ?_ ?_)
    ·refine (@z5h _ _ _ _ _ _ _ ?_ ?_ (by rfl) (by rfl) (by rfl))
     ·exact (@z0c _ _ _ _ _ (3) _ _ _ _ _ k__law_built z5v (hr.mono (by decide)) rfl (@z2a _ _ _ _ _ _ (pv 2) (@z00 _ _ _ _ _ _ (@z01 _ _ _ _ (pv 3)) (@z00 _ _ _ _ _ _ (@z01 _ _ _ _ (pv 5)) (@z0j _ _) (by rfl)) (by rfl)) (by rfl)) rfl (by decide) (by rfl) (by rfl))
     ·exact (@z4C _ _ _ _ _ _ _ rfl (@z0D _ _ _ _ _ _ (@z0t _ _ _ ([]) (6) _ hnp sc_law.nd rfl (by first | exact Or.inl rfl | exact Or.inr rfl) (Or.inl rfl)) (@z0D _ _ _ _ _ _ (@z0t _ _ _ ([]) (7) _ hnp sc_law.nd rfl (by first | exact Or.inl rfl | exact Or.inr rfl) (Or.inl rfl)) (@z0D _ _ _ _ _ _ (@z0t _ _ _ ([]) (8) _ hnp sc_law.nd rfl (by first | exact Or.inl rfl | exact Or.inr rfl) (Or.inl rfl)) (@z3B _ _) (by rfl)) (by rfl)) (by rfl)) (by rfl) (by rfl))
    refine (@z03 _ _ _ _ _ _ ?_ ?_)
    ·refine (@z2b _ _ _ _ _ _ _ _ _ ?_ ?_ ?_)
     ·exact (@z4b _ _ _ _ (@z3v _ _ _ _ _ _ _ _ (@z2w _ _ _ _ _ _ _ _ _ _ zd6 (zex true) (@z0c _ _ _ _ _ (4) _ _ _ _ _ k_way_holds z3a (hr.mono (by decide)) rfl (@z00 _ _ _ _ _ _ (@z01 _ _ _ _ (pv 3)) (@z00 _ _ _ _ _ _ (@z01 _ _ _ _ (pv 5)) (@z00 _ _ _ _ _ _ (@z01 _ _ _ _ (pv 6)) (@z00 _ _ _ _ _ _ (@z01 _ _ _ _ (pv 7)) (@z0j _ _) (by rfl)) (by rfl)) (by rfl)) (by rfl)) rfl (by decide) (by rfl) (by rfl)) (@z08 _ _ _ _ (@z30 _ _ _ _ _)) rfl) (@z35 _ _ _ _ _ (@z2w _ _ _ _ _ _ _ _ _ _ (z4g hq) z6o (@z0c _ _ _ _ _ (1) _ _ _ _ _ k_way_place z3P (hr.mono (by decide)) rfl (@z00 _ _ _ _ _ _ (@z01 _ _ _ _ (pv 3)) (@z00 _ _ _ _ _ _ (@z01 _ _ _ _ (pv 7)) (@z0j _ _) (by rfl)) (by rfl)) rfl (by decide) (by rfl) (by rfl)) (@z0a _ _ _ _ (pv 8)) (z1a _)))))
     ·refine (@z0e _ _ _ _ ?_)
      refine (@z0u _ _ _ _ _ ?_)
      exact (@z30 _ _ _ _ _)
     ·exact z1j
    refine (@z03 _ _ _ _ _ _ ?_ ?_)
    ·refine (@z2b _ _ _ _ _ _ _ _ _ ?_ ?_ ?_)
     ·exact (@z2w _ _ _ _ _ _ _ _ _ _ (z4g hq) z6o (@z0c _ _ _ _ _ (4) _ _ _ _ _ k_cut_far z7n (hr.mono (by decide)) rfl (@z00 _ _ _ _ _ _ (@z01 _ _ _ _ (pv 3)) (@z00 _ _ _ _ _ _ (@z01 _ _ _ _ (pv 5)) (@z00 _ _ _ _ _ _ (@z0l _ _ _ _ _ _ _ _ _ z0k z0A (pv 8) (@z08 _ _ _ _ (@z04 _ _ _ _ _)) (fun _ _=>rfl)) (@z00 _ _ _ _ _ _ (@z0l _ _ _ _ _ _ _ _ _ z0k z0A (pv 8) (@z08 _ _ _ _ (@z04 _ _ _ _ _)) (fun _ _=>rfl)) (@z00 _ _ _ _ _ _ (@z0l _ _ _ _ _ _ _ _ _ z0k z0A (pv 8) (@z08 _ _ _ _ (@z04 _ _ _ _ _)) (fun _ _=>rfl)) (@z00 _ _ _ _ _ _ (@z13 _ _ _ _ _ _ rfl T.z_len (@z0a _ _ _ _ (pv 6)) (by rfl)) (@z00 _ _ _ _ _ _ (@z13 _ _ _ _ _ _ rfl T.z_len (@z08 _ _ _ _ (@z0l _ _ _ _ _ _ _ _ _ z0k z0A (pv 6) (@z08 _ _ _ _ (@z04 _ _ _ _ _)) (fun _ _=>rfl))) (by rfl)) (@z0j _ _) (by rfl)) (by rfl)) (by rfl)) (by rfl)) (by rfl)) (by rfl)) (by rfl)) rfl (by decide) (by rfl) (by rfl)) (@z0a _ _ _ _ (pv 6)) (z1a _))
     ·refine (@z0e _ _ _ _ ?_)
      refine (@z0u _ _ _ _ _ ?_)
      exact (@z30 _ _ _ _ _)
     ·exact z1j
    refine (@z03 _ _ _ _ _ _ ?_ ?_)
    ·refine (@z2O _ _ _ _ _ _ _ _ _ PassesOwn.never rfl ?_ ?_ ?_ (by intro _; rfl))
     ·exact (@z2c _ _ _ _ _ _ _ rfl T.z_range (@z04 _ _ _ _ _) (by rfl))
     ·exact (@z0t _ _ _ ([]) (9) _ hnp sc_law.nd rfl (by first | exact Or.inl rfl | exact Or.inr rfl) (Or.inl rfl))
     ·refine (@z0e _ _ _ _ ?_)
      refine (@z2b _ _ _ _ _ _ _ _ _ ?_ ?_ ?_)
      ·exact (@z1i _ _ _ _ _ (@z1G _ _ _ _ (@z0c _ _ _ _ _ (5) _ _ _ _ _ k__law_right z2X (hr.mono (by decide)) rfl (@z00 _ _ _ _ _ _ (@z01 _ _ _ _ (pv 3)) (@z00 _ _ _ _ _ _ (@z01 _ _ _ _ (pv 5)) (@z00 _ _ _ _ _ _ (@z01 _ _ _ _ (pv 6)) (@z00 _ _ _ _ _ _ (@z0c _ _ _ _ _ (4) _ _ _ _ _ k__law_odd_of z5d (hr.mono (by decide)) rfl (@z2a _ _ _ _ _ _ (pv 2) (@z00 _ _ _ _ _ _ (@z01 _ _ _ _ (pv 3)) (@z00 _ _ _ _ _ _ (@z01 _ _ _ _ (pv 7)) (@z0j _ _) (by rfl)) (by rfl)) (by rfl)) rfl (by decide) (by rfl) (by rfl)) (@z0j _ _) (by rfl)) (by rfl)) (by rfl)) (by rfl)) rfl (by decide) (by rfl) (by rfl)) (by intro _; rfl)))
      ·refine (@z0e _ _ _ _ ?_)
       refine (@z0u _ _ _ _ _ ?_)
       exact (@z30 _ _ _ _ _)
      ·exact z1j
    refine (@z03 _ _ _ _ _ _ ?_ ?_)
    ·refine (@z2b _ _ _ _ _ _ _ _ _ ?_ ?_ ?_)
     ·exact (@z4b _ _ _ _ (@z3v _ _ _ _ _ _ _ _ (@z1i _ _ _ _ _ (@z1G _ _ _ _ (@z0c _ _ _ _ _ (5) _ _ _ _ _ k__law_right z2X (hr.mono (by decide)) rfl (@z00 _ _ _ _ _ _ (@z01 _ _ _ _ (pv 3)) (@z00 _ _ _ _ _ _ (@z0l _ _ _ _ _ _ _ _ _ z0k z0A (pv 4) (@z08 _ _ _ _ (@z04 _ _ _ _ _)) (fun _ _=>rfl)) (@z00 _ _ _ _ _ _ (@z01 _ _ _ _ (pv 6)) (@z00 _ _ _ _ _ _ (@z01 _ _ _ _ (pv 7)) (@z0j _ _) (by rfl)) (by rfl)) (by rfl)) (by rfl)) rfl (by decide) (by rfl) (by rfl)) (by intro _; rfl))) (@z35 _ _ _ _ _ (@z1i _ _ _ _ _ (@z1G _ _ _ _ (@z0c _ _ _ _ _ (5) _ _ _ _ _ k__law_right z2X (hr.mono (by decide)) rfl (@z00 _ _ _ _ _ _ (@z01 _ _ _ _ (pv 3)) (@z00 _ _ _ _ _ _ (@z01 _ _ _ _ (pv 5)) (@z00 _ _ _ _ _ _ (@z0G _ _ _ _ _ _ (@z02 _ _ _ _ _ _ (@z0l _ _ _ _ _ _ _ _ _ z0k z0A (pv 4) (@z08 _ _ _ _ (@zc6 _ _ _ _ _ (@z08 _ _ _ _ (@z04 _ _ _ _ _)))) (fun _ _=>rfl)) (@z0s _ _) (by rfl)) (by decide)) (@z00 _ _ _ _ _ _ (@z01 _ _ _ _ (pv 7)) (@z0j _ _) (by rfl)) (by rfl)) (by rfl)) (by rfl)) rfl (by decide) (by rfl) (by rfl)) (by intro _; rfl))))))
     ·refine (@z0e _ _ _ _ ?_)
      refine (@z0u _ _ _ _ _ ?_)
      exact (@z30 _ _ _ _ _)
     ·exact z1j
    refine (@z03 _ _ _ _ _ _ ?_ ?_)
    ·exact (@z0g _ _ _ _ _ _ ([]) (10) _ hnp sc_law.nd rfl (by first | exact Or.inl rfl | exact Or.inr rfl) (@z0c _ _ _ _ _ (1) _ _ _ _ _ k_way_place z3P (hr.mono (by decide)) rfl (@z00 _ _ _ _ _ _ (@z01 _ _ _ _ (pv 3)) (@z00 _ _ _ _ _ _ (@z01 _ _ _ _ (pv 7)) (@z0j _ _) (by rfl)) (by rfl)) rfl (by decide) (by rfl) (by rfl)) rfl (Or.inl rfl))
    refine (@z0e _ _ _ _ ?_)
    refine (@z2b _ _ _ _ _ _ _ _ _ ?_ ?_ ?_)
    ·exact (@z4b _ _ _ _ (@z3v _ _ _ _ _ _ _ _ (@z1i _ _ _ _ _ (@z1G _ _ _ _ (@z36 _ _ _ _ _ _ _ _ _ T.ty_tuple rfl T.z_isinstance rfl T.z_tuple boot_tuple (@z0a _ _ _ _ (pv 10)) (by decide) (by decide) (by rfl) (by rfl)) (by intro _; rfl))) (@z35 _ _ _ _ _ (@z1i _ _ _ _ _ (@z1G _ _ _ _ (@z7P _ _ _ _ _ _ rfl rfl T.z_all (@z08 _ _ _ _ (@z2U _ _ ([11]) _ _ _ _ _ _ _ _ _ _ rfl (@z1o _ _ _ rfl rfl) (@z3q _ _ _ _ _ (@z01 _ _ _ _ (pv 10))) (fun l s0 H0 ex=>(@z1K _ _ _ _ ([]) (11) _ hnp sc_law.nd rfl (by first | exact Or.inl rfl | exact Or.inr rfl) (by first | exact Or.inl rfl | exact Or.inr rfl) (by decide))) (fun l s0 H0 ex=>(@z2r _ _)) (fun l s0 H0 ex=>(@z0c _ _ _ _ _ (1) _ _ _ _ _ k__law_whole z2W (hr.mono (by decide)) rfl (@z00 _ _ _ _ _ _ (@z01 _ _ _ _ (pv 11)) (@z0j _ _) (by rfl)) rfl (by decide) (by rfl) (by rfl))) (z3m hnp rfl) (by intro _; rfl))) (by rfl)) (by intro _; rfl))))))
    ·refine (@z0e _ _ _ _ ?_)
     refine (@z0u _ _ _ _ _ ?_)
     exact (@z30 _ _ _ _ _)
    ·exact z1j
  refine (@z0e _ _ _ _ ?_)
  refine (@z0u _ _ _ _ _ ?_)
  exact (@z30 _ _ _ _ _)) fun ss y h=>z0B h
theorem all_mk {l:PySem.W.OpenLaw} {w:World} {K:PySem.W.Frag} {h:Heap} {mg:Str→Option Value} {fa:Addr} (X:K.In h) (G:h.Ns mainGlobals mg) (hfa:mg "law" = some (.ref fa))
  {f0:Addr} {od0 an0:Option Addr} {sl0:Array (Option Value)} {oc0 kV0 dc0 pm0 cd0 ct0:Value}
  {f1:Addr} {od1 an1:Option Addr} {sl1:Array (Option Value)} {oc1 kV1 dc1 pm1 cd1 ct1:Value}
  {f2:Addr} {od2 an2:Option Addr} {sl2:Array (Option Value)} {oc2 kV2 dc2 pm2 cd2 ct2:Value}
  {f3:Addr} {od3 an3:Option Addr} {sl3:Array (Option Value)} {oc3 kV3 dc3 pm3 cd3 ct3:Value}
  {f4:Addr} {od4 an4:Option Addr} {sl4:Array (Option Value)} {oc4 kV4 dc4 pm4 cd4 ct4:Value}
  {f5:Addr} {od5 an5:Option Addr} {sl5:Array (Option Value)} {oc5 kV5 dc5 pm5 cd5 ct5:Value}
  {f6:Addr} {od6 an6:Option Addr} {sl6:Array (Option Value)} {oc6 kV6 dc6 pm6 cd6 ct6:Value}
  {f7:Addr} {od7 an7:Option Addr} {sl7:Array (Option Value)} {oc7 kV7 dc7 pm7 cd7 ct7:Value}
  {f8:Addr} {od8 an8:Option Addr} {sl8:Array (Option Value)} {oc8 kV8 dc8 pm8 cd8 ct8:Value}
  {f9:Addr} {od9 an9:Option Addr} {sl9:Array (Option Value)} {oc9 kV9 dc9 pm9 cd9 ct9:Value}
  {f10:Addr} {od10 an10:Option Addr} {sl10:Array (Option Value)} {oc10 kV10 dc10 pm10 cd10 ct10:Value}
  {f11:Addr} {od11 an11:Option Addr} {sl11:Array (Option Value)} {oc11 kV11 dc11 pm11 cd11 ct11:Value}
  {f12:Addr} {od12 an12:Option Addr} {sl12:Array (Option Value)} {oc12 kV12 dc12 pm12 cd12 ct12:Value}
  {f13:Addr} {od13 an13:Option Addr} {sl13:Array (Option Value)} {oc13 kV13 dc13 pm13 cd13 ct13:Value}
  {f14:Addr} {od14 an14:Option Addr} {sl14:Array (Option Value)} {oc14 kV14 dc14 pm14 cd14 ct14:Value}
  {f15:Addr} {od15 an15:Option Addr} {sl15:Array (Option Value)} {oc15 kV15 dc15 pm15 cd15 ct15:Value}
  {f16:Addr} {od16 an16:Option Addr} {sl16:Array (Option Value)} {oc16 kV16 dc16 pm16 cd16 ct16:Value}
  {f17:Addr} {od17 an17:Option Addr} {sl17:Array (Option Value)} {oc17 kV17 dc17 pm17 cd17 ct17:Value}
  {f18:Addr} {od18 an18:Option Addr} {sl18:Array (Option Value)} {oc18 kV18 dc18 pm18 cd18 ct18:Value}
  {f19:Addr} {od19 an19:Option Addr} {sl19:Array (Option Value)} {oc19 kV19 dc19 pm19 cd19 ct19:Value}
  {f20:Addr} {od20 an20:Option Addr} {sl20:Array (Option Value)} {oc20 kV20 dc20 pm20 cd20 ct20:Value}
  {f21:Addr} {od21 an21:Option Addr} {sl21:Array (Option Value)} {oc21 kV21 dc21 pm21 cd21 ct21:Value}
  {f22:Addr} {od22 an22:Option Addr} {sl22:Array (Option Value)} {oc22 kV22 dc22 pm22 cd22 ct22:Value}
  {f23:Addr} {od23 an23:Option Addr} {sl23:Array (Option Value)} {oc23 kV23 dc23 pm23 cd23 ct23:Value}
  {f24:Addr} {od24 an24:Option Addr} {sl24:Array (Option Value)} {oc24 kV24 dc24 pm24 cd24 ct24:Value}
  {f25:Addr} {od25 an25:Option Addr} {sl25:Array (Option Value)} {oc25 kV25 dc25 pm25 cd25 ct25:Value}
  {f26:Addr} {od26 an26:Option Addr} {sl26:Array (Option Value)} {oc26 kV26 dc26 pm26 cd26 ct26:Value}
  {f27:Addr} {od27 an27:Option Addr} {sl27:Array (Option Value)} {oc27 kV27 dc27 pm27 cd27 ct27:Value}
  {f28:Addr} {od28 an28:Option Addr} {sl28:Array (Option Value)} {oc28 kV28 dc28 pm28 cd28 ct28:Value}
  {f29:Addr} {od29 an29:Option Addr} {sl29:Array (Option Value)} {oc29 kV29 dc29 pm29 cd29 ct29:Value}
  {f30:Addr} {od30 an30:Option Addr} {sl30:Array (Option Value)} {oc30 kV30 dc30 pm30 cd30 ct30:Value}
  {f31:Addr} {od31 an31:Option Addr} {sl31:Array (Option Value)} {oc31 kV31 dc31 pm31 cd31 ct31:Value}
  {f32:Addr} {od32 an32:Option Addr} {sl32:Array (Option Value)} {oc32 kV32 dc32 pm32 cd32 ct32:Value}
  {f33:Addr} {od33 an33:Option Addr} {sl33:Array (Option Value)} {oc33 kV33 dc33 pm33 cd33 ct33:Value}
  {f34:Addr} {od34 an34:Option Addr} {sl34:Array (Option Value)} {oc34 kV34 dc34 pm34 cd34 ct34:Value}
  {t_MOST_GROWINGS:Tok}
  {t_MOST_TILES:Tok}
  (a0:PySem.W.nsIn K mainGlobals "_law_cell_at" = some (some (.ref f0)))
  (l0:K.lookup f0=some ⟨oc0,od0,.func (PySem.W.fnOf "_law_cell_at" "_law_cell_at" (z0v z1X) (z0r z1X) (z06 z1X) .none kV0 dc0 pm0 an0 cd0 ct0),sl0⟩)
  (c0:PySem.W.codeIn K cd0 "_law_cell_at" = true)
  (k0:PySem.W.keepIn K (.ref f0)=true)
  (a1:PySem.W.nsIn K mainGlobals "_law_pen_of" = some (some (.ref f1)))
  (l1:K.lookup f1=some ⟨oc1,od1,.func (PySem.W.fnOf "_law_pen_of" "_law_pen_of" (z0v z25) (z0r z25) (z06 z25) .none kV1 dc1 pm1 an1 cd1 ct1),sl1⟩)
  (c1:PySem.W.codeIn K cd1 "_law_pen_of" = true)
  (k1:PySem.W.keepIn K (.ref f1)=true)
  (a2:PySem.W.nsIn K mainGlobals "_law_next" = some (some (.ref f2)))
  (l2:K.lookup f2=some ⟨oc2,od2,.func (PySem.W.fnOf "_law_next" "_law_next" (z0v z2C) (z0r z2C) (z06 z2C) .none kV2 dc2 pm2 an2 cd2 ct2),sl2⟩)
  (c2:PySem.W.codeIn K cd2 "_law_next" = true)
  (k2:PySem.W.keepIn K (.ref f2)=true)
  (a3:PySem.W.nsIn K mainGlobals "_law_draw" = some (some (.ref f3)))
  (l3:K.lookup f3=some ⟨oc3,od3,.func (PySem.W.fnOf "_law_draw" "_law_draw" (z0v z2D) (z0r z2D) (z06 z2D) .none kV3 dc3 pm3 an3 cd3 ct3),sl3⟩)
  (c3:PySem.W.codeIn K cd3 "_law_draw" = true)
  (k3:PySem.W.keepIn K (.ref f3)=true)
  (a4:PySem.W.nsIn K mainGlobals "_law_rule_by" = some (some (.ref f4)))
  (l4:K.lookup f4=some ⟨oc4,od4,.func (PySem.W.fnOf "_law_rule_by" "_law_rule_by" (z0v z1W) (z0r z1W) (z06 z1W) .none kV4 dc4 pm4 an4 cd4 ct4),sl4⟩)
  (c4:PySem.W.codeIn K cd4 "_law_rule_by" = true)
  (k4:PySem.W.keepIn K (.ref f4)=true)
  (a5:PySem.W.nsIn K mainGlobals "_law_tiles_of" = some (some (.ref f5)))
  (l5:K.lookup f5=some ⟨oc5,od5,.func (PySem.W.fnOf "_law_tiles_of" "_law_tiles_of" (z0v z1A) (z0r z1A) (z06 z1A) .none kV5 dc5 pm5 an5 cd5 ct5),sl5⟩)
  (c5:PySem.W.codeIn K cd5 "_law_tiles_of" = true)
  (k5:PySem.W.keepIn K (.ref f5)=true)
  (a6:PySem.W.nsIn K mainGlobals "_law_grown_of" = some (some (.ref f6)))
  (l6:K.lookup f6=some ⟨oc6,od6,.func (PySem.W.fnOf "_law_grown_of" "_law_grown_of" (z0v z1C) (z0r z1C) (z06 z1C) .none kV6 dc6 pm6 an6 cd6 ct6),sl6⟩)
  (c6:PySem.W.codeIn K cd6 "_law_grown_of" = true)
  (k6:PySem.W.keepIn K (.ref f6)=true)
  (a7:PySem.W.nsIn K mainGlobals "_law_cut" = some (some (.ref f7)))
  (l7:K.lookup f7=some ⟨oc7,od7,.func (PySem.W.fnOf "_law_cut" "_law_cut" (z0v z33) (z0r z33) (z06 z33) .none kV7 dc7 pm7 an7 cd7 ct7),sl7⟩)
  (c7:PySem.W.codeIn K cd7 "_law_cut" = true)
  (k7:PySem.W.keepIn K (.ref f7)=true)
  (a8:PySem.W.nsIn K mainGlobals "_law_built" = some (some (.ref f8)))
  (l8:K.lookup f8=some ⟨oc8,od8,.func (PySem.W.fnOf "_law_built" "_law_built" (z0v z2o) (z0r z2o) (z06 z2o) .none kV8 dc8 pm8 an8 cd8 ct8),sl8⟩)
  (c8:PySem.W.codeIn K cd8 "_law_built" = true)
  (k8:PySem.W.keepIn K (.ref f8)=true)
  (a9:PySem.W.nsIn K mainGlobals "way_place" = some (some (.ref f9)))
  (l9:K.lookup f9=some ⟨oc9,od9,.func (PySem.W.fnOf "way_place" "way_place" (z0v z2y) (z0r z2y) (z06 z2y) .none kV9 dc9 pm9 an9 cd9 ct9),sl9⟩)
  (c9:PySem.W.codeIn K cd9 "way_place" = true)
  (k9:PySem.W.keepIn K (.ref f9)=true)
  (a10:PySem.W.nsIn K mainGlobals "letters_good" = some (some (.ref f10)))
  (l10:K.lookup f10=some ⟨oc10,od10,.func (PySem.W.fnOf "letters_good" "letters_good" (z0v z1V) (z0r z1V) (z06 z1V) .none kV10 dc10 pm10 an10 cd10 ct10),sl10⟩)
  (c10:PySem.W.codeIn K cd10 "letters_good" = true)
  (k10:PySem.W.keepIn K (.ref f10)=true)
  (a11:PySem.W.nsIn K mainGlobals "floor_good" = some (some (.ref f11)))
  (l11:K.lookup f11=some ⟨oc11,od11,.func (PySem.W.fnOf "floor_good" "floor_good" (z0v z2l) (z0r z2l) (z06 z2l) .none kV11 dc11 pm11 an11 cd11 ct11),sl11⟩)
  (c11:PySem.W.codeIn K cd11 "floor_good" = true)
  (k11:PySem.W.keepIn K (.ref f11)=true)
  (a12:PySem.W.nsIn K mainGlobals "whole_from" = some (some (.ref f12)))
  (l12:K.lookup f12=some ⟨oc12,od12,.func (PySem.W.fnOf "whole_from" "whole_from" (z0v z2i) (z0r z2i) (z06 z2i) .none kV12 dc12 pm12 an12 cd12 ct12),sl12⟩)
  (c12:PySem.W.codeIn K cd12 "whole_from" = true)
  (k12:PySem.W.keepIn K (.ref f12)=true)
  (a13:PySem.W.nsIn K mainGlobals "whole_within" = some (some (.ref f13)))
  (l13:K.lookup f13=some ⟨oc13,od13,.func (PySem.W.fnOf "whole_within" "whole_within" (z0v z1T) (z0r z1T) (z06 z1T) .none kV13 dc13 pm13 an13 cd13 ct13),sl13⟩)
  (c13:PySem.W.codeIn K cd13 "whole_within" = true)
  (k13:PySem.W.keepIn K (.ref f13)=true)
  (a14:PySem.W.nsIn K mainGlobals "blocks_needed" = some (some (.ref f14)))
  (l14:K.lookup f14=some ⟨oc14,od14,.func (PySem.W.fnOf "blocks_needed" "blocks_needed" (z0v z1z) (z0r z1z) (z06 z1z) .none kV14 dc14 pm14 an14 cd14 ct14),sl14⟩)
  (c14:PySem.W.codeIn K cd14 "blocks_needed" = true)
  (k14:PySem.W.keepIn K (.ref f14)=true)
  (a15:PySem.W.nsIn K mainGlobals "cut_floor" = some (some (.ref f15)))
  (l15:K.lookup f15=some ⟨oc15,od15,.func (PySem.W.fnOf "cut_floor" "cut_floor" (z0v z2A) (z0r z2A) (z06 z2A) .none kV15 dc15 pm15 an15 cd15 ct15),sl15⟩)
  (c15:PySem.W.codeIn K cd15 "cut_floor" = true)
  (k15:PySem.W.keepIn K (.ref f15)=true)
  (a16:PySem.W.nsIn K mainGlobals "laid_floor" = some (some (.ref f16)))
  (l16:K.lookup f16=some ⟨oc16,od16,.func (PySem.W.fnOf "laid_floor" "laid_floor" (z0v z2j) (z0r z2j) (z06 z2j) .none kV16 dc16 pm16 an16 cd16 ct16),sl16⟩)
  (c16:PySem.W.codeIn K cd16 "laid_floor" = true)
  (k16:PySem.W.keepIn K (.ref f16)=true)
  (a17:PySem.W.nsIn K mainGlobals "tiles_known" = some (some (.ref f17)))
  (l17:K.lookup f17=some ⟨oc17,od17,.func (PySem.W.fnOf "tiles_known" "tiles_known" (z0v z24) (z0r z24) (z06 z24) .none kV17 dc17 pm17 an17 cd17 ct17),sl17⟩)
  (c17:PySem.W.codeIn K cd17 "tiles_known" = true)
  (k17:PySem.W.keepIn K (.ref f17)=true)
  (a18:PySem.W.nsIn K mainGlobals "cutting_holds" = some (some (.ref f18)))
  (l18:K.lookup f18=some ⟨oc18,od18,.func (PySem.W.fnOf "cutting_holds" "cutting_holds" (z0v z1y) (z0r z1y) (z06 z1y) .none kV18 dc18 pm18 an18 cd18 ct18),sl18⟩)
  (c18:PySem.W.codeIn K cd18 "cutting_holds" = true)
  (k18:PySem.W.keepIn K (.ref f18)=true)
  (a19:PySem.W.nsIn K mainGlobals "way_holds" = some (some (.ref f19)))
  (l19:K.lookup f19=some ⟨oc19,od19,.func (PySem.W.fnOf "way_holds" "way_holds" (z0v z2z) (z0r z2z) (z06 z2z) .none kV19 dc19 pm19 an19 cd19 ct19),sl19⟩)
  (c19:PySem.W.codeIn K cd19 "way_holds" = true)
  (k19:PySem.W.keepIn K (.ref f19)=true)
  (a20:PySem.W.nsIn K mainGlobals "refuse_no_tile" = some (some (.ref f20)))
  (l20:K.lookup f20=some ⟨oc20,od20,.func (PySem.W.fnOf "refuse_no_tile" "refuse_no_tile" (z0v z1k) (z0r z1k) (z06 z1k) .none kV20 dc20 pm20 an20 cd20 ct20),sl20⟩)
  (c20:PySem.W.codeIn K cd20 "refuse_no_tile" = true)
  (k20:PySem.W.keepIn K (.ref f20)=true)
  (a21:PySem.W.nsIn K mainGlobals "refuse_growings" = some (some (.ref f21)))
  (l21:K.lookup f21=some ⟨oc21,od21,.func (PySem.W.fnOf "refuse_growings" "refuse_growings" (z0v z1d) (z0r z1d) (z06 z1d) .none kV21 dc21 pm21 an21 cd21 ct21),sl21⟩)
  (c21:PySem.W.codeIn K cd21 "refuse_growings" = true)
  (k21:PySem.W.keepIn K (.ref f21)=true)
  (a22:PySem.W.nsIn K mainGlobals "grown_size" = some (some (.ref f22)))
  (l22:K.lookup f22=some ⟨oc22,od22,.func (PySem.W.fnOf "grown_size" "grown_size" (z0v z2k) (z0r z2k) (z06 z2k) .none kV22 dc22 pm22 an22 cd22 ct22),sl22⟩)
  (c22:PySem.W.codeIn K cd22 "grown_size" = true)
  (k22:PySem.W.keepIn K (.ref f22)=true)
  (a23:PySem.W.nsIn K mainGlobals "refuse_place" = some (some (.ref f23)))
  (l23:K.lookup f23=some ⟨oc23,od23,.func (PySem.W.fnOf "refuse_place" "refuse_place" (z0v z1U) (z0r z1U) (z06 z1U) .none kV23 dc23 pm23 an23 cd23 ct23),sl23⟩)
  (c23:PySem.W.codeIn K cd23 "refuse_place" = true)
  (k23:PySem.W.keepIn K (.ref f23)=true)
  (a24:PySem.W.nsIn K mainGlobals "laid_cut" = some (some (.ref f24)))
  (l24:K.lookup f24=some ⟨oc24,od24,.func (PySem.W.fnOf "laid_cut" "laid_cut" (z0v z32) (z0r z32) (z06 z32) .none kV24 dc24 pm24 an24 cd24 ct24),sl24⟩)
  (c24:PySem.W.codeIn K cd24 "laid_cut" = true)
  (k24:PySem.W.keepIn K (.ref f24)=true)
  (a25:PySem.W.nsIn K mainGlobals "cut_far" = some (some (.ref f25)))
  (l25:K.lookup f25=some ⟨oc25,od25,.func (PySem.W.fnOf "cut_far" "cut_far" (z0v z3y) (z0r z3y) (z06 z3y) .none kV25 dc25 pm25 an25 cd25 ct25),sl25⟩)
  (c25:PySem.W.codeIn K cd25 "cut_far" = true)
  (k25:PySem.W.keepIn K (.ref f25)=true)
  (a26:PySem.W.nsIn K mainGlobals "_law_whole" = some (some (.ref f26)))
  (l26:K.lookup f26=some ⟨oc26,od26,.func (PySem.W.fnOf "_law_whole" "_law_whole" (z0v z2m) (z0r z2m) (z06 z2m) .none kV26 dc26 pm26 an26 cd26 ct26),sl26⟩)
  (c26:PySem.W.codeIn K cd26 "_law_whole" = true)
  (k26:PySem.W.keepIn K (.ref f26)=true)
  (a27:PySem.W.nsIn K mainGlobals "_law_floor_good" = some (some (.ref f27)))
  (l27:K.lookup f27=some ⟨oc27,od27,.func (PySem.W.fnOf "_law_floor_good" "_law_floor_good" (z0v z1f) (z0r z1f) (z06 z1f) .none kV27 dc27 pm27 an27 cd27 ct27),sl27⟩)
  (c27:PySem.W.codeIn K cd27 "_law_floor_good" = true)
  (k27:PySem.W.keepIn K (.ref f27)=true)
  (a28:PySem.W.nsIn K mainGlobals "_law_over" = some (some (.ref f28)))
  (l28:K.lookup f28=some ⟨oc28,od28,.func (PySem.W.fnOf "_law_over" "_law_over" (z0v z2B) (z0r z2B) (z06 z2B) .none kV28 dc28 pm28 an28 cd28 ct28),sl28⟩)
  (c28:PySem.W.codeIn K cd28 "_law_over" = true)
  (k28:PySem.W.keepIn K (.ref f28)=true)
  (a29:PySem.W.nsIn K mainGlobals "_law_step_due" = some (some (.ref f29)))
  (l29:K.lookup f29=some ⟨oc29,od29,.func (PySem.W.fnOf "_law_step_due" "_law_step_due" (z0v z1B) (z0r z1B) (z06 z1B) .none kV29 dc29 pm29 an29 cd29 ct29),sl29⟩)
  (c29:PySem.W.codeIn K cd29 "_law_step_due" = true)
  (k29:PySem.W.keepIn K (.ref f29)=true)
  (a30:PySem.W.nsIn K mainGlobals "_law_due_of" = some (some (.ref f30)))
  (l30:K.lookup f30=some ⟨oc30,od30,.func (PySem.W.fnOf "_law_due_of" "_law_due_of" (z0v z27) (z0r z27) (z06 z27) .none kV30 dc30 pm30 an30 cd30 ct30),sl30⟩)
  (c30:PySem.W.codeIn K cd30 "_law_due_of" = true)
  (k30:PySem.W.keepIn K (.ref f30)=true)
  (a31:PySem.W.nsIn K mainGlobals "_law_right" = some (some (.ref f31)))
  (l31:K.lookup f31=some ⟨oc31,od31,.func (PySem.W.fnOf "_law_right" "_law_right" (z0v z2n) (z0r z2n) (z06 z2n) .none kV31 dc31 pm31 an31 cd31 ct31),sl31⟩)
  (c31:PySem.W.codeIn K cd31 "_law_right" = true)
  (k31:PySem.W.keepIn K (.ref f31)=true)
  (a32:PySem.W.nsIn K mainGlobals "_law_some_floor" = some (some (.ref f32)))
  (l32:K.lookup f32=some ⟨oc32,od32,.func (PySem.W.fnOf "_law_some_floor" "_law_some_floor" (z0v z1e) (z0r z1e) (z06 z1e) .none kV32 dc32 pm32 an32 cd32 ct32),sl32⟩)
  (c32:PySem.W.codeIn K cd32 "_law_some_floor" = true)
  (k32:PySem.W.keepIn K (.ref f32)=true)
  (a33:PySem.W.nsIn K mainGlobals "_law_odd_of" = some (some (.ref f33)))
  (l33:K.lookup f33=some ⟨oc33,od33,.func (PySem.W.fnOf "_law_odd_of" "_law_odd_of" (z0v z26) (z0r z26) (z06 z26) .none kV33 dc33 pm33 an33 cd33 ct33),sl33⟩)
  (c33:PySem.W.codeIn K cd33 "_law_odd_of" = true)
  (k33:PySem.W.keepIn K (.ref f33)=true)
  (a34:PySem.W.nsIn K mainGlobals "law" = some (some (.ref f34)))
  (l34:K.lookup f34=some ⟨oc34,od34,.func (PySem.W.fnOf "law" "law" (z0v z70) (z0r z70) (z06 z70) .none kV34 dc34 pm34 an34 cd34 ct34),sl34⟩)
  (c34:PySem.W.codeIn K cd34 "law" = true)
  (k34:PySem.W.keepIn K (.ref f34)=true)
  (z_all:PySem.W.nsIn K mainGlobals "all" = some none)
  (z_bool:PySem.W.nsIn K mainGlobals "bool" = some none)
  (z_dict:PySem.W.nsIn K mainGlobals "dict" = some none)
  (z_int:PySem.W.nsIn K mainGlobals "int" = some none)
  (z_isinstance:PySem.W.nsIn K mainGlobals "isinstance" = some none)
  (z_len:PySem.W.nsIn K mainGlobals "len" = some none)
  (z_list:PySem.W.nsIn K mainGlobals "list" = some none)
  (z_max:PySem.W.nsIn K mainGlobals "max" = some none)
  (z_min:PySem.W.nsIn K mainGlobals "min" = some none)
  (z_range:PySem.W.nsIn K mainGlobals "range" = some none)
  (z_str:PySem.W.nsIn K mainGlobals "str" = some none)
  (z_tuple:PySem.W.nsIn K mainGlobals "tuple" = some none)
  (g_MOST_GROWINGS:PySem.W.nsIn K mainGlobals "MOST_GROWINGS" = some (some (.int 60 t_MOST_GROWINGS)))
  (g_MOST_TILES:PySem.W.nsIn K mainGlobals "MOST_TILES" = some (some (.int 64 t_MOST_TILES)))
  : ∃ fd:FuncData,(∀ (s:Shared) (v:Value),BindsTo s fd ⟨[v],[]⟩ [("script",v)])∧∀ base:Heap,K.In base→base.Ns mainGlobals mg→FnOk l.prog w K mg base CX0 6 fa fd ["script"] (spD 1 G_law):=by
 have e:=hfa.symm.trans (PySem.W.mg_of X G a34)
 cases e
 have T:Txt K mg:=⟨PySem.W.mg_none_of X G z_all,PySem.W.mg_none_of X G z_bool,PySem.W.mg_none_of X G z_dict,PySem.W.mg_none_of X G z_int,PySem.W.mg_none_of X G z_isinstance,PySem.W.mg_none_of X G z_len,PySem.W.mg_none_of X G z_list,PySem.W.mg_none_of X G z_max,PySem.W.mg_none_of X G z_min,PySem.W.mg_none_of X G z_range,PySem.W.mg_none_of X G z_str,PySem.W.mg_none_of X G z_tuple,zbp,zcs,zcr,z9W,⟨_,PySem.W.mg_of X G g_MOST_GROWINGS⟩,⟨_,PySem.W.mg_of X G g_MOST_TILES⟩⟩
 have F0:=z0U (st:=z1X) l0 c0 k0
 have b0:=F0.binds (ps:=["script","k"]) fun _ _ _ _ _ _ us hl=>by rcases us with _ | ⟨_,_ | ⟨_,_ | ⟨_,_⟩⟩⟩ <;> first | rfl | cases hl
 have F1:=z0U (st:=z25) l1 c1 k1
 have b1:=F1.binds (ps:=["cell"]) fun _ _ _ _ _ _ us hl=>by rcases us with _ | ⟨_,_ | ⟨_,_⟩⟩ <;> first | rfl | cases hl
 have F2:=z0U (st:=z2C) l2 c2 k2
 have b2:=F2.binds (ps:=["seed"]) fun _ _ _ _ _ _ us hl=>by rcases us with _ | ⟨_,_ | ⟨_,_⟩⟩ <;> first | rfl | cases hl
 have F3:=z0U (st:=z2D) l3 c3 k3
 have b3:=F3.binds (ps:=["pen","many"]) fun _ _ _ _ _ _ us hl=>by rcases us with _ | ⟨_,_ | ⟨_,_ | ⟨_,_⟩⟩⟩ <;> first | rfl | cases hl
 have F4:=z0U (st:=z1W) l4 c4 k4
 have b4:=F4.binds (ps:=["pen","most"]) fun _ _ _ _ _ _ us hl=>by rcases us with _ | ⟨_,_ | ⟨_,_ | ⟨_,_⟩⟩⟩ <;> first | rfl | cases hl
 have F5:=z0U (st:=z1A) l5 c5 k5
 have b5:=F5.binds (ps:=["rule"]) fun _ _ _ _ _ _ us hl=>by rcases us with _ | ⟨_,_ | ⟨_,_⟩⟩ <;> first | rfl | cases hl
 have F6:=z0U (st:=z1C) l6 c6 k6
 have b6:=F6.binds (ps:=["rule","floor"]) fun _ _ _ _ _ _ us hl=>by rcases us with _ | ⟨_,_ | ⟨_,_ | ⟨_,_⟩⟩⟩ <;> first | rfl | cases hl
 have F7:=z0U (st:=z33) l7 c7 k7
 have b7:=F7.binds (ps:=["floor","row","column","high","wide"]) fun _ _ _ _ _ _ us hl=>by rcases us with _ | ⟨_,_ | ⟨_,_ | ⟨_,_ | ⟨_,_ | ⟨_,_ | ⟨_,_⟩⟩⟩⟩⟩⟩ <;> first | rfl | cases hl
 have F8:=z0U (st:=z2o) l8 c8 k8
 have b8:=F8.binds (ps:=["pen","rule","tile"]) fun _ _ _ _ _ _ us hl=>by rcases us with _ | ⟨_,_ | ⟨_,_ | ⟨_,_ | ⟨_,_⟩⟩⟩⟩ <;> first | rfl | cases hl
 have F9:=z0U (st:=z2y) l9 c9 k9
 have b9:=F9.binds (ps:=["rule","way"]) fun _ _ _ _ _ _ us hl=>by rcases us with _ | ⟨_,_ | ⟨_,_ | ⟨_,_⟩⟩⟩ <;> first | rfl | cases hl
 have F10:=z0U (st:=z1V) l10 c10 k10
 have b10:=F10.binds (ps:=["thing","most"]) fun _ _ _ _ _ _ us hl=>by rcases us with _ | ⟨_,_ | ⟨_,_ | ⟨_,_⟩⟩⟩ <;> first | rfl | cases hl
 have F11:=z0U (st:=z2l) l11 c11 k11
 have b11:=F11.binds (ps:=["thing"]) fun _ _ _ _ _ _ us hl=>by rcases us with _ | ⟨_,_ | ⟨_,_⟩⟩ <;> first | rfl | cases hl
 have F12:=z0U (st:=z2i) l12 c12 k12
 have b12:=F12.binds (ps:=["thing","least"]) fun _ _ _ _ _ _ us hl=>by rcases us with _ | ⟨_,_ | ⟨_,_ | ⟨_,_⟩⟩⟩ <;> first | rfl | cases hl
 have F13:=z0U (st:=z1T) l13 c13 k13
 have b13:=F13.binds (ps:=["thing","least","most"]) fun _ _ _ _ _ _ us hl=>by rcases us with _ | ⟨_,_ | ⟨_,_ | ⟨_,_ | ⟨_,_⟩⟩⟩⟩ <;> first | rfl | cases hl
 have F14:=z0U (st:=z1z) l14 c14 k14
 have b14:=F14.binds (ps:=["offset","size","factor"]) fun _ _ _ _ _ _ us hl=>by rcases us with _ | ⟨_,_ | ⟨_,_ | ⟨_,_ | ⟨_,_⟩⟩⟩⟩ <;> first | rfl | cases hl
 have F15:=z0U (st:=z2A) l15 c15 k15
 have b15:=F15.binds (ps:=["floor","row","column","rows","columns"]) fun _ _ _ _ _ _ us hl=>by rcases us with _ | ⟨_,_ | ⟨_,_ | ⟨_,_ | ⟨_,_ | ⟨_,_ | ⟨_,_⟩⟩⟩⟩⟩⟩ <;> first | rfl | cases hl
 have F16:=z0U (st:=z2j) l16 c16 k16
 have b16:=F16.binds (ps:=["block_of","high","floor"]) fun _ _ _ _ _ _ us hl=>by rcases us with _ | ⟨_,_ | ⟨_,_ | ⟨_,_ | ⟨_,_⟩⟩⟩⟩ <;> first | rfl | cases hl
 have F17:=z0U (st:=z24) l17 c17 k17
 have b17:=F17.binds (ps:=["block_of","floor"]) fun _ _ _ _ _ _ us hl=>by rcases us with _ | ⟨_,_ | ⟨_,_ | ⟨_,_⟩⟩⟩ <;> first | rfl | cases hl
 have F18:=z0U (st:=z1y) l18 c18 k18
 have b18:=F18.binds (ps:=["rule","floor","thing"]) fun _ _ _ _ _ _ us hl=>by rcases us with _ | ⟨_,_ | ⟨_,_ | ⟨_,_ | ⟨_,_⟩⟩⟩⟩ <;> first | rfl | cases hl
 have F19:=z0U (st:=z2z) l19 c19 k19
 have b19:=F19.binds (ps:=["rule","tile","floor","thing"]) fun _ _ _ _ _ _ us hl=>by rcases us with _ | ⟨_,_ | ⟨_,_ | ⟨_,_ | ⟨_,_ | ⟨_,_⟩⟩⟩⟩⟩ <;> first | rfl | cases hl
 have F20:=z0U (st:=z1k) l20 c20 k20
 have b20:=F20.binds (ps:=["rule","thing"]) fun _ _ _ _ _ _ us hl=>by rcases us with _ | ⟨_,_ | ⟨_,_ | ⟨_,_⟩⟩⟩ <;> first | rfl | cases hl
 have F21:=z0U (st:=z1d) l21 c21 k21
 have b21:=F21.binds (ps:=["growings"]) fun _ _ _ _ _ _ us hl=>by rcases us with _ | ⟨_,_ | ⟨_,_⟩⟩ <;> first | rfl | cases hl
 have F22:=z0U (st:=z2k) l22 c22 k22
 have b22:=F22.binds (ps:=["size","factor","often"]) fun _ _ _ _ _ _ us hl=>by rcases us with _ | ⟨_,_ | ⟨_,_ | ⟨_,_ | ⟨_,_⟩⟩⟩⟩ <;> first | rfl | cases hl
 have F23:=z0U (st:=z1U) l23 c23 k23
 have b23:=F23.binds (ps:=["rule","growings","row","column"]) fun _ _ _ _ _ _ us hl=>by rcases us with _ | ⟨_,_ | ⟨_,_ | ⟨_,_ | ⟨_,_ | ⟨_,_⟩⟩⟩⟩⟩ <;> first | rfl | cases hl
 have F24:=z0U (st:=z32) l24 c24 k24
 have b24:=F24.binds (ps:=["rule","tile","growings","cut"]) fun _ _ _ _ _ _ us hl=>by rcases us with _ | ⟨_,_ | ⟨_,_ | ⟨_,_ | ⟨_,_ | ⟨_,_⟩⟩⟩⟩⟩ <;> first | rfl | cases hl
 have F25:=z0U (st:=z3y) l25 c25 k25
 have b25:=F25.binds (ps:=["rule","tile","growings","row","column","high","wide"]) fun _ _ _ _ _ _ us hl=>by rcases us with _ | ⟨_,_ | ⟨_,_ | ⟨_,_ | ⟨_,_ | ⟨_,_ | ⟨_,_ | ⟨_,_ | ⟨_,_⟩⟩⟩⟩⟩⟩⟩⟩ <;> first | rfl | cases hl
 have F26:=z0U (st:=z2m) l26 c26 k26
 have b26:=F26.binds (ps:=["found"]) fun _ _ _ _ _ _ us hl=>by rcases us with _ | ⟨_,_ | ⟨_,_⟩⟩ <;> first | rfl | cases hl
 have F27:=z0U (st:=z1f) l27 c27 k27
 have b27:=F27.binds (ps:=["rule","thing"]) fun _ _ _ _ _ _ us hl=>by rcases us with _ | ⟨_,_ | ⟨_,_ | ⟨_,_⟩⟩⟩ <;> first | rfl | cases hl
 have F28:=z0U (st:=z2B) l28 c28 k28
 have b28:=F28.binds (ps:=["start","size","side"]) fun _ _ _ _ _ _ us hl=>by rcases us with _ | ⟨_,_ | ⟨_,_ | ⟨_,_ | ⟨_,_⟩⟩⟩⟩ <;> first | rfl | cases hl
 have F29:=z0U (st:=z1B) l29 c29 k29
 have b29:=F29.binds (ps:=["rule","floor","thing"]) fun _ _ _ _ _ _ us hl=>by rcases us with _ | ⟨_,_ | ⟨_,_ | ⟨_,_ | ⟨_,_⟩⟩⟩⟩ <;> first | rfl | cases hl
 have F30:=z0U (st:=z27) l30 c30 k30
 have b30:=F30.binds (ps:=["rule","tile","floor","thing"]) fun _ _ _ _ _ _ us hl=>by rcases us with _ | ⟨_,_ | ⟨_,_ | ⟨_,_ | ⟨_,_ | ⟨_,_⟩⟩⟩⟩⟩ <;> first | rfl | cases hl
 have F31:=z0U (st:=z2n) l31 c31 k31
 have b31:=F31.binds (ps:=["rule","tile","floor","thing"]) fun _ _ _ _ _ _ us hl=>by rcases us with _ | ⟨_,_ | ⟨_,_ | ⟨_,_ | ⟨_,_ | ⟨_,_⟩⟩⟩⟩⟩ <;> first | rfl | cases hl
 have F32:=z0U (st:=z1e) l32 c32 k32
 have b32:=F32.binds (ps:=["pen","rule","high","wide"]) fun _ _ _ _ _ _ us hl=>by rcases us with _ | ⟨_,_ | ⟨_,_ | ⟨_,_ | ⟨_,_ | ⟨_,_⟩⟩⟩⟩⟩ <;> first | rfl | cases hl
 have F33:=z0U (st:=z26) l33 c33 k33
 have b33:=F33.binds (ps:=["pen","rule","way"]) fun _ _ _ _ _ _ us hl=>by rcases us with _ | ⟨_,_ | ⟨_,_ | ⟨_,_ | ⟨_,_⟩⟩⟩⟩ <;> first | rfl | cases hl
 have F34:=z0U (st:=z70) l34 c34 k34
 have b34:=F34.binds (ps:=["script"]) fun _ _ _ _ _ _ us hl=>by rcases us with _ | ⟨_,_ | ⟨_,_⟩⟩ <;> first | rfl | cases hl
 refine ⟨PySem.W.fnOf "law" "law" (z0v z70) (z0r z70) (z06 z70) .none kV34 dc34 pm34 an34 cd34 ct34,fun s v=>.of_eq rfl,fun base _ _=>?_⟩
 have k__law_cell_at:KFn l.prog w K mg base 1 "_law_cell_at" 2 z1c:=z5Y F0 (PySem.W.mg_of X G a0) b0 T
 have k__law_pen_of:KFn l.prog w K mg base 1 "_law_pen_of" 1 z1r:=z6l F1 (PySem.W.mg_of X G a1) b1 T
 have k__law_next:KFn l.prog w K mg base 1 "_law_next" 1 z23:=z86 F2 (PySem.W.mg_of X G a2) b2 T
 have k__law_draw:KFn l.prog w K mg base 2 "_law_draw" 2 z0d:=z87 F3 (PySem.W.mg_of X G a3) b3 T k__law_next
 have k__law_rule_by:KFn l.prog w K mg base 3 "_law_rule_by" 2 z0R:=z5X F4 (PySem.W.mg_of X G a4) b4 T k__law_draw
 have k__law_tiles_of:KFn l.prog w K mg base 1 "_law_tiles_of" 1 z0q:=z5p F5 (PySem.W.mg_of X G a5) b5 T
 have k__law_grown_of:KFn l.prog w K mg base 1 "_law_grown_of" 2 z0C:=z5r F6 (PySem.W.mg_of X G a6) b6 T
 have k__law_cut:KFn l.prog w K mg base 1 "_law_cut" 5 z1E:=z8L F7 (PySem.W.mg_of X G a7) b7 T
 have k__law_built:KFn l.prog w K mg base 3 "_law_built" 3 z1J:=z7g F8 (PySem.W.mg_of X G a8) b8 T k__law_draw k__law_grown_of k__law_cut
 have k_way_place:KFn l.prog w K mg base 1 "way_place" 2 z1O:=z82 F9 (PySem.W.mg_of X G a9) b9 T
 have k_letters_good:KFn l.prog w K mg base 1 "letters_good" 2 z0Q:=z5W F10 (PySem.W.mg_of X G a10) b10 T
 have k_floor_good:KFn l.prog w K mg base 2 "floor_good" 1 z1I:=z7d F11 (PySem.W.mg_of X G a11) b11 T k_letters_good
 have k_whole_from:KFn l.prog w K mg base 1 "whole_from" 2 z1p:=z7a F12 (PySem.W.mg_of X G a12) b12 T
 have k_whole_within:KFn l.prog w K mg base 2 "whole_within" 3 z0p:=z5U F13 (PySem.W.mg_of X G a13) b13 T k_whole_from
 have k_blocks_needed:KFn l.prog w K mg base 1 "blocks_needed" 3 z0L:=z5o F14 (PySem.W.mg_of X G a14) b14 T
 have k_cut_floor:KFn l.prog w K mg base 1 "cut_floor" 5 z18:=z84 F15 (PySem.W.mg_of X G a15) b15 T
 have k_laid_floor:KFn l.prog w K mg base 1 "laid_floor" 3 z0X:=z7b F16 (PySem.W.mg_of X G a16) b16 T
 have k_tiles_known:KFn l.prog w K mg base 1 "tiles_known" 2 z1q:=z6k F17 (PySem.W.mg_of X G a17) b17 T
 have k_cutting_holds:KFn l.prog w K mg base 3 "cutting_holds" 3 z0Y:=z5n F18 (PySem.W.mg_of X G a18) b18 T k_floor_good k_whole_within k_blocks_needed k_cut_floor k_laid_floor k_tiles_known
 have k_way_holds:KFn l.prog w K mg base 4 "way_holds" 4 z16:=z83 F19 (PySem.W.mg_of X G a19) b19 T k_cutting_holds
 have k_refuse_no_tile:KFn l.prog w K mg base 1 "refuse_no_tile" 2 z17:=z59 F20 (PySem.W.mg_of X G a20) b20 T
 have k_refuse_growings:KFn l.prog w K mg base 3 "refuse_growings" 1 z0P:=z4K F21 (PySem.W.mg_of X G a21) b21 T k_whole_within
 have k_grown_size:KFn l.prog w K mg base 1 "grown_size" 3 z0z:=z7c F22 (PySem.W.mg_of X G a22) b22 T
 have k_refuse_place:KFn l.prog w K mg base 3 "refuse_place" 4 z1v:=z5V F23 (PySem.W.mg_of X G a23) b23 T k_whole_within k_grown_size
 have k_laid_cut:KFn l.prog w K mg base 2 "laid_cut" 4 z2J:=z8K F24 (PySem.W.mg_of X G a24) b24 T k_cut_floor k_laid_floor k_grown_size
 have k_cut_far:KFn l.prog w K mg base 4 "cut_far" 7 z2T:=z9J F25 (PySem.W.mg_of X G a25) b25 T k_refuse_no_tile k_refuse_growings k_grown_size k_refuse_place k_laid_cut
 have k__law_whole:KFn l.prog w K mg base 1 "_law_whole" 1 z0M:=z7e F26 (PySem.W.mg_of X G a26) b26 T
 have k__law_floor_good:KFn l.prog w K mg base 2 "_law_floor_good" 2 z0J:=z4M F27 (PySem.W.mg_of X G a27) b27 T k__law_tiles_of
 have k__law_over:KFn l.prog w K mg base 1 "_law_over" 3 z1P:=z85 F28 (PySem.W.mg_of X G a28) b28 T
 have k__law_step_due:KFn l.prog w K mg base 3 "_law_step_due" 3 z0Z:=z5q F29 (PySem.W.mg_of X G a29) b29 T k__law_grown_of k__law_cut k__law_whole k__law_floor_good k__law_over
 have k__law_due_of:KFn l.prog w K mg base 4 "_law_due_of" 4 z1t:=z6n F30 (PySem.W.mg_of X G a30) b30 T k__law_step_due
 have k__law_right:KFn l.prog w K mg base 5 "_law_right" 4 z1b:=z7f F31 (PySem.W.mg_of X G a31) b31 T k_way_holds k__law_due_of
 have k__law_some_floor:KFn l.prog w K mg base 3 "_law_some_floor" 4 z0I:=z4L F32 (PySem.W.mg_of X G a32) b32 T k__law_draw k__law_tiles_of
 have k__law_odd_of:KFn l.prog w K mg base 4 "_law_odd_of" 3 z1s:=z6m F33 (PySem.W.mg_of X G a33) b33 T k__law_draw k__law_some_floor
 exact zeu F34 T k__law_cell_at k__law_pen_of k__law_draw k__law_rule_by k__law_tiles_of k__law_built k_way_place k_way_holds k_cut_far k__law_whole k__law_right k__law_odd_of
open L2 DV
open PySem (sizeLine)
theorem z3r (f:DE) (δ:Dl):iSq f δ=(f δ).bind fun r δ1=>match r.d with
 | .lst ds=>.ok ds δ1
 | .tup ds=>.ok ds δ1
 | .str x=>.ok (x.map fun n=>.str [n]) δ1
 | _=>.stuck:=id rfl
theorem z1w (p p':D→D→Option S) (fa fb:DE) (fc:BE) (δ:Dl):z3A p p' fa fb fc δ=(fa δ).bind fun x δ1=>(fb δ1).bind fun y δ2=>(p2 p x.d y.d δ2).bind fun z δ3=>match z with
 | .pure (.bl true)=>(fc δ3).bind fun w δ4=>p2 p' y.d w δ4
 | .pure (.bl false)=>.ok (.pure (.bl false)) δ3
 | _=>.stuck:=id rfl
theorem z8h {g:DG} {b:DS} (I:Nat→Dl→Prop) (bad:D→Bool) (r:S) (R:Dl→Prop) :
  ∀ (ds:List D) (n:Nat) (δ:Dl),I n δ →
   (∀ (i:Nat) d δ,ds[i]? = some d→I (n + i) δ→∃ δ1,g (.pure d) δ=some δ1∧((bad d=true∧∃ δ2,b δ1 = .ok (.ret r) δ2∧R δ2)∨(bad d=false∧∃ δ2,b δ1 = .ok .next δ2∧I (n + i + 1) δ2))) →
   (ds.any bad=true∧∃ δ',forL g b ds δ = .ok (.ret r) δ'∧R δ')∨(ds.any bad=false∧∃ δ',forL g b ds δ = .ok .next δ'∧I (n + ds.length) δ')
 | [],n,δ,h,_=>.inr ⟨rfl,δ,rfl,h⟩
 | d :: rs,n,δ,h,hs=>by
  obtain ⟨δ1,e1,hh⟩:=hs 0 d δ rfl h
  rcases hh with ⟨hb,δ2,e2,h2⟩ | ⟨hb,δ2,e2,h2⟩
  ·refine .inl ⟨by simp [hb],δ2,?_,h2⟩
   unfold forL
   rw [e1]
   simp only [e2,z1Y]
  ·have ih:=z8h (g:=g) (b:=b) I bad r R rs (n + 1) δ2 h2 (fun i d' δ' e hi=>by
    have:=hs (i + 1) d' δ' (by simpa using e) (by rw [show n + (i + 1)=n + 1 + i by omega]; exact hi)
    rw [show n + (i + 1) + 1=n + 1 + i + 1 by omega] at this
    exact this)
   have ef:∀ x,forL g b rs δ2=x→forL g b (d :: rs) δ=x:=fun x hx=>by
    unfold forL
    rw [e1]
    simp only [e2,z1Y,hx]
   rcases ih with ⟨ha,δ',e3,h3⟩ | ⟨ha,δ',e3,h3⟩
   ·exact .inl ⟨by simp [ha],δ',ef _ e3,h3⟩
   ·exact .inr ⟨by simp [hb,ha],δ',ef _ e3,by rw [List.length_cons,show n + (rs.length + 1)=n + 1 + rs.length by omega]; exact h3⟩
def nx (s:Int):Int:=(((s + 7919) % 2147483647) * ((s + 7919) % 2147483647) + 48271 * ((s + 7919) % 2147483647) + 12345) % 2147483629
theorem zdS (s:Int):z23 [.pure (.int s)]=some (.pure (.int (nx s)),[.pure (.int s)]):=by
 unfold z23 gOf z4y runD
 have h1:=Int.emod_nonneg (s + 7919) (b:=2147483647) (by decide)
 have h2:=Int.emod_lt_of_pos (s + 7919) (b:=2147483647) (by decide)
 have c1:cMul ((s + 7919) % 2147483647) ((s + 7919) % 2147483647)=true:=by unfold cMul; simp; omega
 have c2:cMul 48271 ((s + 7919) % 2147483647)=true:=by unfold cMul; simp
 simp [ioOk,z0h,dAsg,eOpF,eOpN,bVar,pAdd,pMod,pII,z2g,pMul,c1,c2,z0y,z0f]
 rfl
def Pen (d:D):Prop:=∃ l f s:Int,d = .lst [.int l,.int f,.int s]∧0≤l
theorem z97 {d:D} (hp:Pen d) (m:Nat) (h0:0 < m) (h1:m < 1073741824):∃ (r:Nat) (d':D),z0d [.own d,.pure (.int m)]=some (.pure (.int r),[.own d',.pure (.int m)])∧r < m∧Pen d':=by
 obtain ⟨l,f,s,rfl,hl⟩:=hp
 have hm:(0:Int) < (m:Int):=by omega
 have hd:cDiv l m=true:=by unfold cDiv; simp; omega
 unfold z0d gOf z4z runD
 by_cases hf:f=1
 ·subst hf
  have e1:=Int.emod_nonneg l (b:=(m:Int)) (by omega)
  have e2:=Int.emod_lt_of_pos l hm
  refine ⟨(l % (m:Int)).toNat,.lst [.int (l / m),.int 1,.int s],?_,by omega,⟨_,_,_,rfl,Int.ediv_nonneg hl (by omega)⟩⟩
  simp [ioOk,z0h,dAsg,eOpF,eOpN,bVar,eVar,pIx,pEq,eqD,flat,z2f,z7D,z7C,dTr,pMod,pDiv,pII,h0,hd,z8m,z3K,putL,z0y,z0f,ixN]
  omega
 ·have e1:=Int.emod_nonneg (nx (nx s + 7) / 64) (b:=(m:Int)) (by omega)
  have e2:=Int.emod_lt_of_pos (nx (nx s + 7) / 64) hm
  refine ⟨(nx (nx s + 7) / 64 % (m:Int)).toNat,.lst [.int l,.int f,.int (nx (nx s + 7))],?_,by omega,⟨_,_,_,rfl,hl⟩⟩
  simp [ioOk,z0h,dAsg,eOpF,eOpN,bVar,eVar,pIx,pEq,eqD,flat,z2f,z7D,z7C,dTr,pMod,pDiv,pII,h0,hd,z8m,z3K,putL,z0y,z0f,ixN,hf,z05,ios,z0x,ndup,evX,mkA,zdS,pAdd,putA,cDiv]
  omega
theorem r_pen (c:Int):∃ d,z1r [.pure (.int c)]=some (.own d,[.pure (.int c)])∧Pen d:=by
 unfold z1r gOf z3G runD
 refine ⟨.lst [.int (if 0 - c > c then 0 - c else c),.int (if decide (1000000000000000000≤(if 0 - c > c then 0 - c else c)) then 1 else 0),.int ((if 0 - c > c then 0 - c else c) % 1000003)],?_,⟨_,_,_,rfl,by split <;> omega⟩⟩
 simp [ioOk,z0h,dAsg,eOpF,eOpN,bVar,eVar,pMax,pSub,pII,pInt,pGe,pCmp,pPow,cPow,pMod,z0y,z0f]
theorem z8B (ns:List Int):∃ c:Int,z1c [.pure (.lst (ns.map .int)),.pure (.int 0)]=some (.pure (.int c),[.pure (.lst (ns.map .int)),.pure (.int 0)]):=by
 unfold z1c gOf z3u runD
 cases ns with
 | nil=>exact ⟨0,by simp [ioOk,z0h,eOpF,eOpN,bVar,pLt,pCmp,dTr,pLen,z0y,z0f]⟩
 | cons n r=>exact ⟨n,by
   have:(0:Int) < (r.length:Int) + 1:=by omega
   simp [ioOk,z0h,eOpF,eOpN,bVar,pLt,pCmp,dTr,pLen,z0y,z0f,pIx,z2f,this]⟩
theorem z73 {d:D} (hp:Pen d) (m:Nat) (i:Int) (hi:i=m) (h0:0 < m) (h1:m < 1073741824):∃ (r:Nat) (d':D),z0d [.own d,.pure (.int i)]=some (.pure (.int r),[.own d',.pure (.int i)])∧r < m∧Pen d':=by
 subst hi
 exact z97 hp m h0 h1
open L2 DV
open PySem (sizeLine)
def lettersT:Tx:=[97,98,99,100,101,102,103,104,105,106,107,108,109,110,111,112,113,114,115,116,117,118,119,120,121,122]
def tsOf (s n:Nat):Tx:=(List.range n).map fun k=>97 + s + k
theorem z8P:∀ s,s < 26→∀ r,r < 26→s + 1 + r≤26→(lettersT.drop s).take (1 + r)=tsOf s (1 + r):=by decide
theorem z8c {s r:Nat} (h:s + 1 + r≤26):cutL lettersT (some (s:Int)) (some ((s:Int) + 1 + (r:Int)))=tsOf s (1 + r):=by
 rw [← z8P s (by omega) r (by omega) h]
 have h1:¬ (s:Int) < 0:=by omega
 have h2:¬ (s:Int) + 1 + (r:Int) < 0:=by omega
 have h3:((s:Int) + 1 + (r:Int)).toNat=s + 1 + r:=by omega
 have hl:lettersT.length=26:=rfl
 unfold cutL HT.sIx
 simp only [h1,h2,if_false,h3,hl]
 have e1:min ((s:Int).toNat) 26=s:=by omega
 have e2:min (s + 1 + r) 26 - min ((s:Int).toNat) 26=1 + r:=by omega
 rw [e1] at e2 ⊢
 rw [e2]
theorem zdB (s n:Nat):(tsOf s n).length=n:=by simp [tsOf]
theorem ts_up (s n:Nat):(tsOf s n).Pairwise (· < ·):=by
 unfold tsOf
 rw [List.pairwise_map]
 exact (List.pairwise_lt_range (n:=n)).imp fun h=>by omega
theorem zdA {s n t:Nat} (h:s + n≤26) (ht:t ∈ tsOf s n):97≤t∧t≤122:=by
 simp [tsOf] at ht
 obtain ⟨k,hk,rfl⟩:=ht
 omega
def rb2 (pd:D) (m h w s:Nat) (ts:Tx) (al:Nat) (blocks:List D) (o9 o10 o11 o12 o13:Option S):Dl :=
 [some (.own pd),some (.pure (.int m)),some (.pure (.str lettersT)),some (.pure (.int h)),some (.pure (.int w)),some (.pure (.int s)),some (.pure (.str ts)),some (.pure (.int (1 + (al:Int)))),some (.own (.lst blocks)),o9,o10,o11,o12,o13,none]
abbrev z9r:DE:=eOpF pIx 6 (bOf (eOp pDiv (z05 z0d [.io 0,.val (eC1 pLen (bVar 6))]) (bVar 7)))
theorem zcL {m h w s:Nat} {ts:Tx} {al:Nat} (hts0:0 < ts.length) (hts:ts.length≤26) (hal:al < 3) (hw:w≤4) {pd:D} (hpd:Pen pd) (blocks:List D) (o9 o10 o11 o12 o13:Option S) :
  ∃ (x:Tx) (pd':D),z2F [14] (gNm [0] 14) dYes z9r (z1g 0 w) (rb2 pd m h w s ts al blocks o9 o10 o11 o12 o13) [] = .ok (x.map fun n=>.str [n]) (rb2 pd' m h w s ts al blocks o9 o10 o11 o12 o13)∧x.length=w∧(∀ n ∈ x,n ∈ ts)∧Pen pd':=by
 obtain ⟨xs,δ',e,⟨pd',hpd',rfl⟩,hn,hf⟩:=z4Y (cs:=[14]) (g:=gNm [0] 14) (t:=dYes) (el:=z9r) (fun δ=>∃ pd,Pen pd∧δ=rb2 pd m h w s ts al blocks o9 o10 o11 o12 o13)
  (fun _ x=>∃ n,n ∈ ts∧x = .str [n]) (z1g 0 w) _ [] ⟨pd,hpd,rfl⟩ (by rw [z1L]; simp; omega) (fun d hd δ ⟨pd,hpd,e⟩=>by
   subst e
   obtain ⟨i,hi,rfl⟩:=z5i hd
   obtain ⟨r,d',e,l,p⟩:=z97 hpd ts.length hts0 (by omega)
   have hd:pDiv (.int r) (.int (1 + (al:Int)))=some (.pure (.int ((r / (1 + al):Nat):Int))):=by
    have hc:cDiv (r:Int) (1 + (al:Int))=true:=by unfold cDiv; simp; omega
    show (if cDiv (r:Int) (1 + (al:Int)) then _ else _)=_
    rw [if_pos hc]
    simp
   have hlt:r / (1 + al) < ts.length:=Nat.lt_of_le_of_lt (Nat.div_le_self _ _) l
   refine ⟨_,_,.pure (.str [ts.getD (r / (1 + al)) 0]),(rb2 d' m h w s ts al blocks o9 o10 o11 o12 o13).set 14 (some (.pure (.int i))),rfl,rfl,?_,⟨d',p,rfl⟩,⟨_,?_,rfl⟩⟩
   ·have hx:=z69 ts (r / (1 + al)) hlt (by omega)
    simp only [rb2,z9r,eOpF,eOpN,zcj,zeU,List.set_cons_succ,List.set_cons_zero,List.getElem?_cons_succ,List.getElem?_cons_zero,z05,ios,ndup,List.all_cons,List.all_nil,z0x,Bool.and_true,if_true,evX,zeV,bVar,z1Y,ev_p1,zeW,z9P ts (by omega),List.contains_nil,Bool.not_false,mkA,Option.map_some,e,putA,zeT,hd,hx]
   ·simp [hlt])
 obtain ⟨x,rfl,hx⟩:=z8z (P:=fun n=>n ∈ ts) (zae hn hf fun d x _ h=>h)
 exact ⟨x,pd',by simpa using e,by simpa using hn,hx,hpd'⟩
abbrev bRow:DS:=(dSeq (dAsg (z28 [14] (z0S (eVar 4)) (gNm [0] 14) dYes z9r) (gNm [0] 12)) (z0W 10 (eC1 (z2t []) (bVar 12))))
theorem zdQ {m h w s:Nat} {ts:Tx} {al:Nat} (hts0:0 < ts.length) (hts:ts.length≤26) (hal:al < 3) (hw:w≤4) (hh:h≤4) {pd:D} (hpd:Pen pd) (blocks:List D) (o9 o11 o12 o13:Option S) :
  ∃ (fl:List Tx) (pd':D) (o11' o12':Option S),forL (gNm [0] 11) bRow (z1g 0 h) (rb2 pd m h w s ts al blocks o9 (some (.own (.lst []))) o11 o12 o13) = .ok .next (rb2 pd' m h w s ts al blocks o9 (some (.own (.lst (fl.map .str)))) o11' o12' o13)∧fl.length=h∧(∀ r ∈ fl,r.length=w∧∀ n ∈ r,n ∈ ts)∧Pen pd':=by
 obtain ⟨δ',e3,pd',fl,o11',o12',hpd',hfl,hall,rfl⟩:=z2d (g:=gNm [0] 11) (b:=bRow) (fun k δ=>∃ (pd:D) (fl:List Tx) (o11 o12:Option S),Pen pd∧fl.length=k∧(∀ r ∈ fl,r.length=w∧∀ n ∈ r,n ∈ ts)∧δ=rb2 pd m h w s ts al blocks o9 (some (.own (.lst (fl.map .str)))) o11 o12 o13)
  (z1g 0 h) 0 _ ⟨pd,[],o11,o12,hpd,rfl,by simp,rfl⟩ (fun i d δ hd ⟨pd,fl,o11,o12,hpd,hfl,hall,e⟩=>by
   subst e
   obtain ⟨hi,rfl⟩:=z1H hd
   obtain ⟨x,pd',e,hx,hxt,hpd'⟩:=zcL (m:=m) (h:=h) (s:=s) hts0 hts hal hw hpd blocks o9 (some (.own (.lst (fl.map .str)))) (some (.pure (.int i))) o12 o13
   have hz:fl.length < sizeLine:=by rw [z1L]; omega
   have ej:=z9p x (by omega)
   refine ⟨_,rb2 pd' m h w s ts al blocks o9 (some (.own (.lst ((fl ++ [x]).map .str)))) (some (.pure (.int i))) (some (.own (.lst (x.map fun n=>.str [n])))) o13,rfl,?_,⟨pd',fl ++ [x],_,_,hpd',by simp [hfl],?_,rfl⟩⟩
   ·unfold rb2 at e ⊢
    simp [bRow,dAsg,eVar,z4d w (by omega),z0x,clrD]
    rw [e]
    simp [z20,z0W,z3K,bVar,ej,putL,hz]
   ·intro r hr
    rcases List.mem_append.mp hr with hr | hr
    ·exact hall r hr
    ·simp at hr; subst hr; exact ⟨hx,hxt⟩)
 exact ⟨fl,pd',o11',o12',e3,by simpa using hfl,hall,hpd'⟩
open L2 DV
open PySem (sizeLine)
abbrev zdw:DS:=(dSeq (dAsg (eLst aNil) (gNm [0] 10)) (dSeq (dFor (z0S (eVar 3)) (gNm [0] 11) bRow) (z0W 8 (eTup (z09 (eVar 9) (z09 (eC1 z1Q (bVar 10)) aNil))))))
theorem zbx {m h w s:Nat} {ts:Tx} {al:Nat} (hts0:0 < ts.length) (hts:ts.length≤26) (hal:al < 3) (hw:w≤4) (hh:h≤4) {pd:D} (hpd:Pen pd) :
  ∃ (bs:List (Nat×List Tx)) (pd':D) (o9 o10 o11 o12:Option S),forL (gNm [0] 9) zdw (ts.map fun n=>.str [n]) (rb2 pd m h w s ts al [] none none none none none) = .ok .next (rb2 pd' m h w s ts al (bs.map blD) o9 o10 o11 o12 none)∧bs.map (·.1)=ts∧(∀ b ∈ bs,b.2.length=h∧∀ r ∈ b.2,r.length=w∧∀ n ∈ r,n ∈ ts)∧Pen pd':=by
 obtain ⟨δ',e3,pd',bs,o9,o10,o11,o12,hpd',hbs,hall,rfl⟩:=z2d (g:=gNm [0] 9) (b:=zdw) (fun k δ=>∃ (pd:D) (bs:List (Nat×List Tx)) (o9 o10 o11 o12:Option S),Pen pd∧bs.map (·.1)=ts.take k∧(∀ b ∈ bs,b.2.length=h∧∀ r ∈ b.2,r.length=w∧∀ n ∈ r,n ∈ ts)∧δ=rb2 pd m h w s ts al (bs.map blD) o9 o10 o11 o12 none)
  (ts.map fun n=>D.str [n]) 0 _ ⟨pd,[],none,none,none,none,hpd,rfl,by simp,rfl⟩ (fun i d δ hd ⟨pd,bs,o9,o10,o11,o12,hpd,hbs,hall,e⟩=>by
   subst e
   rw [List.getElem?_map,Option.map_eq_some_iff] at hd
   obtain ⟨n,hn,rfl⟩:=hd
   have hi:i < ts.length:=(List.getElem?_eq_some_iff.mp hn).1
   rw [Nat.zero_add] at hbs
   have hbl:bs.length=i:=by have:=congrArg List.length hbs; simp at this; omega
   obtain ⟨fl,pd',o11',o12',e,hfl,hflt,hpd'⟩:=zdQ (m:=m) (h:=h) (s:=s) hts0 hts hal hw hh hpd (bs.map blD) (some (.pure (.str [n]))) o11 o12 none
   have hz:bs.length < sizeLine:=by rw [z1L]; omega
   refine ⟨_,rb2 pd' m h w s ts al ((bs ++ [(n,fl)]).map blD) (some (.pure (.str [n]))) (some (.own (.lst (fl.map .str)))) o11' o12' none,rfl,?_,⟨pd',bs ++ [(n,fl)],_,_,_,_,hpd',?_,?_,rfl⟩⟩
   ·unfold rb2 at e ⊢
    simp [zdw,dAsg,eVar,z4d h (by omega)]
    rw [e]
    simp [z0W,z3K,eVar,bVar,z1Q,putL,hz,blD]
   ·rw [Nat.zero_add,List.map_append,hbs,List.take_add_one,hn]
    simp
   ·intro b hb
    rcases List.mem_append.mp hb with hb | hb
    ·exact hall b hb
    ·simp at hb; subst hb; exact ⟨hfl,hflt⟩)
 refine ⟨bs,pd',o9,o10,o11,o12,e3,?_,hall,hpd'⟩
 rw [hbs,List.take_of_length_le]
 simp
theorem zbr:∀ r:Nat,r < 10→∃ h w:Nat,pIx (.lst [.tup [.int 2,.int 2],.tup [.int 1,.int 2],.tup [.int 2,.int 1],.tup [.int 2,.int 2],.tup [.int 1,.int 3],.tup [.int 2,.int 3],.tup [.int 3,.int 1],.tup [.int 3,.int 2],.tup [.int 4,.int 4],.tup [.int 2,.int 2]]) (.int r)=some (.pure (.tup [.int h,.int w]))∧0 < h∧h≤4∧0 < w∧w≤4∧2 < h + w:=by
 intro r hr
 have:r=0∨r=1∨r=2∨r=3∨r=4∨r=5∨r=6∨r=7∨r=8∨r=9:=by omega
 rcases this with rfl | rfl | rfl | rfl | rfl | rfl | rfl | rfl | rfl | rfl
 ·exact ⟨2,2,rfl,by decide⟩
 ·exact ⟨1,2,rfl,by decide⟩
 ·exact ⟨2,1,rfl,by decide⟩
 ·exact ⟨2,2,rfl,by decide⟩
 ·exact ⟨1,3,rfl,by decide⟩
 ·exact ⟨2,3,rfl,by decide⟩
 ·exact ⟨3,1,rfl,by decide⟩
 ·exact ⟨3,2,rfl,by decide⟩
 ·exact ⟨4,4,rfl,by decide⟩
 ·exact ⟨2,2,rfl,by decide⟩
theorem sub_int (i j:Int):pSub (.int i) (.int j)=some (.pure (.int (i - j))):=rfl
theorem zcE (x:Tx) (h:x.length≤1000):pSl (some 1) none (.str x)=some (.pure (.str x.tail)):=by
 unfold pSl
 have hz:sizeLine=16777216:=rfl
 simp only
 rw [if_pos (by omega)]
 have:cutL x (some 1) none=x.tail:=by
  unfold cutL HT.sIx
  simp
  cases x with
  | nil=>simp
  | cons a r=>simp
 rw [this]
theorem zcD (ds:List D):pSl (some 1) none (.tup ds)=some (.pure (.tup ds.tail)):=by
 have:cutL ds (some 1) none=ds.tail:=by
  unfold cutL HT.sIx
  simp
  cases ds with
  | nil=>simp
  | cons a r=>simp
 show some (S.pure (.tup (cutL ds (some 1) none)))=_
 rw [this]
theorem add_str (x y:Tx) (h:x.length + y.length≤1000):pAdd (.str x) (.str y)=some (.pure (.str (x ++ y))):=by
 have hz:sizeLine=16777216:=rfl
 simp only [pAdd]
 rw [if_pos (by omega)]
theorem z5g (x y:List D) (h:x.length + y.length≤1000):pAdd (.tup x) (.tup y)=some (.pure (.tup (x ++ y))):=by
 have hz:sizeLine=16777216:=rfl
 simp only [pAdd]
 rw [if_pos (by omega)]
def fixB:List (Nat×List Tx)→List (Nat×List Tx)
 | (n,r :: q) :: bs=>(n,(n :: r.tail) :: q) :: bs
 | bs=>bs
theorem zaZ (bs:List (Nat×List Tx)):(fixB bs).map (·.1)=bs.map (·.1):=by
 match bs with
 | []=>rfl
 | (n,[]) :: bs=>rfl
 | (n,r :: q) :: bs=>rfl
theorem zdj {h w:Nat} {bs:List (Nat×List Tx)} (R:Rul h w bs):Rul h w (fixB bs):=by
 have hf:=zaZ bs
 have hl:(fixB bs).length=bs.length:=by have:=congrArg List.length hf; simpa using this
 refine ⟨R.h0,R.h1,R.w0,R.w1,R.hw,by rw [hl]; exact R.n0,by rw [hl]; exact R.n1,by rw [hf]; exact R.up,fun b hb=>?_,fun b hb=>?_⟩
 ·have:b.1 ∈ (fixB bs).map (·.1):=List.mem_map_of_mem hb
  rw [hf] at this
  obtain ⟨b',hb',e⟩:=List.mem_map.mp this
  rw [← e]; exact R.let' b' hb'
 ·rw [hf]
  match bs,R,hb with
  | [],R,hb=>have:=R.n0; simp at this
  | (n,[]) :: bs,R,hb=>exact R.blk b hb
  | (n,r :: q) :: bs,R,hb =>
   rcases List.mem_cons.mp hb with e | hb
   ·subst e
    have:=R.blk _ List.mem_cons_self
    refine ⟨this.1,fun x hx=>?_⟩
    rcases List.mem_cons.mp hx with e | hx
    ·subst e
     have h1:=this.2 r List.mem_cons_self
     refine ⟨by have:=R.w0; simp; omega,fun k hk=>?_⟩
     rcases List.mem_cons.mp hk with e | hk
     ·subst e; simp
     ·exact h1.2 k (List.mem_of_mem_tail hk)
    ·exact this.2 x (List.mem_cons_of_mem _ hx)
   ·exact R.blk b (List.mem_cons_of_mem _ hb)
theorem zaj {d:D} (hp:Pen d) (m:Nat) (hm0:0 < m) (hm1:m≤26):∃ (h w:Nat) (bs:List (Nat×List Tx)) (d':D),
  z0R [.own d,.pure (.int m)]=some (.pure (ruD h w bs),[.own d',.pure (.int m)])∧Rul h w bs∧bs.length≤m∧Pen d':=by
 obtain ⟨r1,d1,e1,l1,p1⟩:=z73 hp 10 10 rfl (by decide) (by decide)
 obtain ⟨h,w,hx,h0,h1,w0,w1,hw⟩:=zbr r1 l1
 obtain ⟨s,d2,e2,l2,p2⟩:=z73 p1 (27 - m) (27 - (m:Int)) (by omega) (by omega) (by omega)
 obtain ⟨r3,d3,e3,l3,p3⟩:=z97 p2 m hm0 (by omega)
 obtain ⟨al,d4,e4,l4,p4⟩:=z73 p3 3 3 rfl (by decide) (by decide)
 have hc:=z8c (s:=s) (r:=r3) (by omega)
 have hlen:=zdB s (1 + r3)
 have hup:=ts_up s (1 + r3)
 have hlet:∀ t ∈ tsOf s (1 + r3),97≤t∧t≤122:=fun t ht=>zdA (by omega) ht
 generalize tsOf s (1 + r3)=ts at hc hlen hup hlet
 obtain ⟨bs,d5,o9,o10,o11,o12,e5,hfst,hall,p5⟩:=zbx (m:=m) (h:=h) (w:=w) (s:=s) (ts:=ts) (al:=al) (by omega) (by omega) l4 w1 h1 p4
 obtain ⟨r6,d6,e6,l6,p6⟩:=z73 p5 2 2 rfl (by decide) (by decide)
 have hbl:bs.length=1 + r3:=by have:=congrArg List.length hfst; simp at this; omega
 have R:Rul h w bs:=⟨h0,h1,w0,w1,hw,by omega,by omega,by rw [hfst]; exact hup,fun b hb=>hlet _ (by rw [← hfst]; exact List.mem_map_of_mem hb),fun b hb=>by rw [hfst]; exact hall b hb⟩
 have hsl:pSl (some (s:Int)) (some ((s:Int) + 1 + (r3:Int))) (.str lettersT)=some (.pure (.str ts)):=by rw [← hc]; rfl
 have hsz:[some (S.own d4),some (.pure (.int m)),some (.pure (.str lettersT)),some (.pure (.int h)),some (.pure (.int w)),some (.pure (.int s)),some (.pure (.str ts)),some (.pure (.int (1 + (al:Int)))),some (.own (.lst [])),none,none,none,none,none,none]=rb2 d4 m h w s ts al [] none none none none none:=rfl
 have hlT:D.str [97,98,99,100,101,102,103,104,105,106,107,108,109,110,111,112,113,114,115,116,117,118,119,120,121,122] = .str lettersT:=rfl
 by_cases hr6:r6=0
 ·-- the first block is changed
  match bs,R,hbl,e5,hall with
  | [],R,hbl,e5,hall=>simp at hbl; omega
  | (n,[]) :: q,R,hbl,e5,hall=>have:=(R.blk _ List.mem_cons_self).1; simp at this; omega
  | (n,x :: fl) :: q,R,hbl,e5,hall =>
   have hxl:=(R.blk _ List.mem_cons_self).2 x List.mem_cons_self
   have hfl:=(R.blk _ List.mem_cons_self).1
   simp only at hxl hfl
   refine ⟨h,w,fixB ((n,x :: fl) :: q),d6,?_,zdj R,?_,p6⟩
   ·have a1:pAdd (.str [n]) (.str x.tail)=some (.pure (.str (n :: x.tail))):=add_str [n] x.tail (by simp; omega)
    have a2:pAdd (.tup [.str (n :: x.tail)]) (.tup (fl.map .str))=some (.pure (.tup (.str (n :: x.tail) :: fl.map .str))):=z5g [.str (n :: x.tail)] (fl.map .str) (by simp at hfl ⊢; omega)
    have s1:=zcE x (by omega)
    have s2:pSl (some 1) none (flD (x :: fl))=some (.pure (.tup (fl.map .str))):=zcD ((x :: fl).map D.str)
    unfold z0R gOf z2M runD
    rw [hlT]
    generalize lettersT=LT at *
    generalize [D.tup [.int 2,.int 2],.tup [.int 1,.int 2],.tup [.int 2,.int 1],.tup [.int 2,.int 2],.tup [.int 1,.int 3],.tup [.int 2,.int 3],.tup [.int 3,.int 1],.tup [.int 3,.int 2],.tup [.int 4,.int 4],.tup [.int 2,.int 2]]=SZ at *
    simp [ioOk,z0h,dAsg,z05,ios,ndup,z0x,evX,mkA,e1,putA,hx,gTp,z0i,z1F,sub_int,bVar,e2,eSlN,z19,eVar,eOpF,eOpN,pAdd,e3,hsl,e4,z3r]
    simp only [hsz]
    rw [e5]
    simp [rb2,dTr,z05,ios,ndup,z0x,evX,mkA,e6,putA,hr6,pEq,flat,eqD,eOpF,eOpN,bVar,pIx,z2f,gTp,z0i,z1F,z8m,z3K,eVar,eSlN,z19,s1,a1,s2,a2,ixN,putL,blD,z1Q,z0y,z0f,fixB]
   ·have:=congrArg List.length (zaZ ((n,x :: fl) :: q))
    simp at this hbl ⊢
    omega
 ·refine ⟨h,w,bs,d6,?_,R,by omega,p6⟩
  unfold z0R gOf z2M runD
  rw [hlT]
  generalize lettersT=LT at *
  generalize [D.tup [.int 2,.int 2],.tup [.int 1,.int 2],.tup [.int 2,.int 1],.tup [.int 2,.int 2],.tup [.int 1,.int 3],.tup [.int 2,.int 3],.tup [.int 3,.int 1],.tup [.int 3,.int 2],.tup [.int 4,.int 4],.tup [.int 2,.int 2]]=SZ at *
  simp [ioOk,z0h,dAsg,z05,ios,ndup,z0x,evX,mkA,e1,putA,hx,gTp,z0i,z1F,sub_int,bVar,e2,eSlN,z19,eVar,eOpF,eOpN,pAdd,e3,hsl,e4,z3r]
  simp only [hsz]
  rw [e5]
  simp [rb2,dTr,z05,ios,ndup,z0x,evX,mkA,e6,putA,hr6,pEq,flat,eqD,bVar,z1Q,z0y,z0f,eVar]
open L2 DV
open PySem (sizeLine)
theorem z68 {A B J:Type} {g:DG} {b:DS} (emb:A→D) (mk:B→J→Dl) (f:B→A→B) (P:B→Prop) (Q:A→Prop) (hf:∀ x a,P x→Q a→P (f x a)) (step:∀ x j a,P x→Q a→∃ δ1 j',g (.pure (emb a)) (mk x j)=some δ1∧b δ1 = .ok .next (mk (f x a) j')) :
  ∀ (as:List A) (x:B) (j:J),P x→(∀ a ∈ as,Q a)→∃ j',forL g b (as.map emb) (mk x j) = .ok .next (mk (as.foldl f x) j')∧P (as.foldl f x)
 | [],x,j,hp,_=>⟨j,rfl,hp⟩
 | a :: r,x,j,hp,hq=>by
  obtain ⟨δ1,j',e1,e2⟩:=step x j a hp (hq a List.mem_cons_self)
  obtain ⟨j'',e3,h3⟩:=z68 emb mk f P Q hf step r (f x a) j' (hf x a hp (hq a List.mem_cons_self)) fun b hb=>hq b (List.mem_cons_of_mem _ hb)
  refine ⟨j'',?_,h3⟩
  rw [List.map_cons]
  unfold forL
  rw [e1]
  simp only [e2,z1Y,e3]
  rfl
theorem zaf (n:Nat):z1g 0 n=(List.range n).map fun k:Nat=>D.int (k:Int):=by simp [z1g]
theorem mul_int (i j:Int) (h0:0≤j) (h1:j≤1000):z2g (.int i) (.int j)=some (.pure (.int (i * j))):=by
 unfold z2g pMul pII
 have:cMul i j=true:=by unfold cMul; simp; omega
 simp only [this,if_true]
theorem z8T (r h:Nat) (h0:0 < h) (h1:h≤1000):pDiv (.int r) (.int h)=some (.pure (.int ((r / h:Nat):Int))):=by
 have hc:cDiv (r:Int) (h:Int)=true:=by unfold cDiv; simp; omega
 show (if cDiv (r:Int) (h:Int) then _ else _)=_
 rw [if_pos hc]
 simp
theorem le_int (i j:Int):pLe (.int i) (.int j)=some (.pure (.bl (decide (i≤j)))):=rfl
theorem gt_int (i j:Int):pGt (.int i) (.int j)=some (.pure (.bl (decide (j < i)))):=rfl
theorem z9q (i j:Int):pEq (.int i) (.int j)=some (.pure (.bl (i == j))):=rfl
theorem z60 (i j:Int):pNe (.int i) (.int j)=some (.pure (.bl (!(i == j)))):=rfl
theorem add_int (i j:Int):pAdd (.int i) (.int j)=some (.pure (.int (i + j))):=rfl
theorem z0T (np:List Nat) (n:Nat) (b:DS) (ss:List S):gOf np n b ss=if ioOk np 0 ss then (match b (z0h n ss) with
 | .ok fl δ=>(z0y fl).bind fun r=>(z0f 0 ss δ).map fun outs=>(r,outs)
 | _=>none) else none:=rfl
theorem z9j (h:Nat):∀ (as:List Nat) (x:Nat),as.foldl (fun x _=>x * h) x=x * h ^ as.length
 | [],x=>by simp
 | a :: r,x=>by rw [List.foldl_cons,z9j h r,List.length_cons,Nat.pow_succ,Nat.mul_assoc,Nat.mul_comm h]
theorem z58 (h t:Nat) (h1:h≤1000) (t1:t≤1000):z0z [.pure (.int 1),.pure (.int h),.pure (.int t)]=some (.pure (.int ((h ^ t:Nat):Int)),[.pure (.int 1),.pure (.int h),.pure (.int t)]):=by
 rw [z0z,z0T,z41]
 obtain ⟨j',e,_⟩:=z68 (g:=gNm [] 3) (b:=dAsg (eOpF z2g 0 (bVar 1)) (gNm [] 0)) (fun k:Nat=>D.int (k:Int)) (fun (x:Nat) (j:Option S)=>[some (.pure (.int (x:Int))),some (.pure (.int h)),some (.pure (.int t)),j]) (fun x _=>x * h) (fun _=>True) (fun _=>True) (fun _ _ _ _=>trivial) (fun x j a _ _=>⟨_,some (.pure (.int a)),rfl,by
  have:=mul_int x h (by omega) (by omega)
  simp [dAsg,eOpF,eOpN,bVar,this]⟩) (List.range t) 1 none trivial (fun _ _=>trivial)
 rw [z9j,List.length_range,Nat.one_mul,← zaf] at e
 simp [ioOk,z0h,eVar,z4d t (by omega)]
 simp only [Int.natCast_one] at e
 rw [e]
 simp [eVar,z0y,z0f]
theorem zdU (i l:Int):z1p [.pure (.int i),.pure (.int l)]=some (.pure (.bl (decide (l≤i))),[.pure (.int i),.pure (.int l)]):=by
 rw [z1p,z0T,z3p]
 simp [ioOk,z0h,eAnd,eNot,eIsi,isTy,bVar,eVar,eOpF,eOpN,le_int,z0y,z0f]
theorem z71 (i l m:Int) (h1:l≤i):z0p [.pure (.int i),.pure (.int l),.pure (.int m)]=some (.pure (.bl (decide (i≤m))),[.pure (.int i),.pure (.int l),.pure (.int m)]):=by
 rw [z0p,z0T,z2L]
 have e:=zdU i l
 simp [h1] at e
 simp [ioOk,z0h,eAnd,z05,ios,ndup,z0x,evX,mkA,e,putA,bVar,eVar,eOpF,eOpN,le_int,z0y,z0f]
theorem z57 (t:Nat) (h:t≤60):z0P [.pure (.int t)]=some (.pure .non,[.pure (.int t)]):=by
 rw [z0P,z0T,z2G]
 have e:=z71 t 0 60 (by omega)
 have h':(t:Int)≤60:=by omega
 simp [h'] at e
 simp [ioOk,z0h,dTr,z05,ios,ndup,z0x,evX,mkA,e,putA,eVar,z0y,z0f]
theorem z4k (h w:Nat) (bs:List (Nat×List Tx)):pIx (ruD h w bs) (.int 0)=some (.pure (.int h))∧pIx (ruD h w bs) (.int 1)=some (.pure (.int w))∧pIx (ruD h w bs) (.int 2)=some (.pure (.tup (bs.map blD))):=by
 refine ⟨?_,?_,?_⟩
 ·simp [pIx,z2f]
 ·simp [pIx,z7D]
 ·simp [pIx,z7C]
theorem zcR (GG GW:DF) (ru:D) (t r c h w A B:Int) (x0:pIx ru (.int 0)=some (.pure (.int h))) (x1:pIx ru (.int 1)=some (.pure (.int w)))
  (gh:GG [.pure (.int 1),.pure (.int h),.pure (.int t)]=some (.pure (.int A),[.pure (.int 1),.pure (.int h),.pure (.int t)])) (gw:GG [.pure (.int 1),.pure (.int w),.pure (.int t)]=some (.pure (.int B),[.pure (.int 1),.pure (.int w),.pure (.int t)]))
  (eh:GW [.pure (.int r),.pure (.int 0),.pure (.int (A - 1))]=some (.pure (.bl true),[.pure (.int r),.pure (.int 0),.pure (.int (A - 1))])) (ew:GW [.pure (.int c),.pure (.int 0),.pure (.int (B - 1))]=some (.pure (.bl true),[.pure (.int c),.pure (.int 0),.pure (.int (B - 1))])) :
  gOf [] 4 (dSeq (dIf (dNot (dTr (z05 GW [.val (eVar 2),.val (eD (.int 0)),.val (eOp pSub (z05 GG [.val (eD (.int 1)),.val (eOpF pIx 0 (bOf (eD (.int 0)))),.val (eVar 1)]) (bOf (eD (.int 1))))]))) z4V z0N) (dIf (dNot (dTr (z05 GW [.val (eVar 3),.val (eD (.int 0)),.val (eOp pSub (z05 GG [.val (eD (.int 1)),.val (eOpF pIx 0 (bOf (eD (.int 1)))),.val (eVar 1)]) (bOf (eD (.int 1))))]))) z4V z0N)) [.pure ru,.pure (.int t),.pure (.int r),.pure (.int c)]=some (.pure .non,[.pure ru,.pure (.int t),.pure (.int r),.pure (.int c)]):=by
 rw [z0T]
 simp [ioOk,z0h,dTr,z05,ios,ndup,z0x,evX,mkA,putA,eVar,eOpF,eOpN,x0,x1,gh,gw,sub_int,eh,ew,bVar,z0y,z0f]
theorem z6j {h w t r c:Nat} {bs:List (Nat×List Tx)} (R:Rul h w bs) (ht:t≤60) (hr:r < h ^ t) (hc:c < w ^ t):z1v [.pure (ruD h w bs),.pure (.int t),.pure (.int r),.pure (.int c)]=some (.pure .non,[.pure (ruD h w bs),.pure (.int t),.pure (.int r),.pure (.int c)]):=by
 have h1:=R.h1
 have w1:=R.w1
 have eh:=z71 r 0 (((h ^ t:Nat):Int) - 1) (by omega)
 have ew:=z71 c 0 (((w ^ t:Nat):Int) - 1) (by omega)
 rw [decide_eq_true (by omega)] at eh ew
 rw [z1v,z3s]
 exact zcR z0z z0p _ _ _ _ _ _ _ _ (z4k h w bs).1 (z4k h w bs).2.1 (z58 h t (by omega) (by omega)) (z58 w t (by omega) (by omega)) eh ew
def dcD (bs:List (Nat×List Tx)):D:=.dct (bs.map fun b=>(Sum.inr [b.1],flD b.2))
theorem z9a:∀ bs:List (Nat×List Tx),z4e (bs.map blD)=some (bs.map fun b=>(Sum.inr [b.1],flD b.2))
 | []=>rfl
 | b :: r=>by
  have:=z9a r
  simp only [List.map_cons]
  simp [z4e,keyD,this]
theorem z7W:∀ (kps acc:List (DKey×D)),((acc ++ kps).map (·.1)).Nodup→z8D kps acc=acc ++ kps
 | [],acc,_=>by simp [z8D]
 | p :: r,acc,h=>by
  have hn:(acc.any fun kv=>decide (kv.1=p.1))=false:=by
   rw [List.any_eq_false]
   intro kv hkv
   simp only [decide_eq_true_eq]
   intro e
   rw [List.map_append,List.nodup_append] at h
   exact h.2.2 kv.1 (List.mem_map_of_mem hkv) p.1 (List.mem_map_of_mem List.mem_cons_self) e
  have hp:putD acc p.1 p.2=acc ++ [p]:=by
   unfold putD
   rw [hn]
   simp
  show z8D r (putD acc p.1 p.2)=_
  rw [hp,z7W r (acc ++ [p]) (by simpa using h)]
  simp
theorem z7x {h w:Nat} {bs:List (Nat×List Tx)} (R:Rul h w bs):z2E (.tup (bs.map blD))=some (.own (dcD bs)):=by
 unfold z2E
 simp only [z9a,Option.bind_some,List.length_map]
 have hz:sizeLine=16777216:=rfl
 rw [if_pos (by have:=R.n1; omega),z7W]
 ·rfl
 ·simp only [List.nil_append,List.map_map]
  rw [List.nodup_iff_pairwise_ne,List.pairwise_map]
  have:=R.up
  rw [List.pairwise_map] at this
  exact this.imp fun {a b} hab=>by simp; omega
def blk (bs:List (Nat×List Tx)) (n:Nat):List Tx:=((bs.find? fun b=>decide (b.1=n)).map (·.2)).getD []
theorem z7A {bs:List (Nat×List Tx)} {n:Nat} (h:n ∈ bs.map (·.1)):∃ b ∈ bs,b.1=n∧(bs.find? fun b=>decide (b.1=n))=some b∧blk bs n=b.2:=by
 cases e:bs.find? fun b=>decide (b.1=n) with
 | none =>
  obtain ⟨b,hb,rfl⟩:=List.mem_map.mp h
  have:=List.find?_eq_none.mp e b hb
  simp at this
 | some b =>
  have h1:=List.mem_of_find?_eq_some e
  have h2:=List.find?_some e
  refine ⟨b,h1,by simpa using h2,rfl,?_⟩
  unfold blk
  rw [e]
  rfl
theorem z9V (bs:List (Nat×List Tx)) (n:Nat):valD (bs.map fun b=>((Sum.inr [b.1]:DKey),flD b.2)) (.inr [n])=(bs.find? fun b=>decide (b.1=n)).map fun b=>flD b.2:=by
 unfold valD
 rw [List.find?_map]
 simp [Function.comp_def]
theorem zeL {bs:List (Nat×List Tx)} {n:Nat} (h:n ∈ bs.map (·.1)):pIxX (dcD bs) (.str [n])=some (.pure (flD (blk bs n))):=by
 obtain ⟨b,hb,_,e,e2⟩:=z7A h
 show ((keyD (.str [n])).bind fun k=>(valD (bs.map fun b=>((Sum.inr [b.1]:DKey),flD b.2)) k).map S.pure)=_
 simp only [keyD,Option.bind_some,z9V,e,Option.map_some,e2]
theorem in_dc {bs:List (Nat×List Tx)} {n:Nat} (h:n ∈ bs.map (·.1)):pIn true (.str [n]) (dcD bs)=some (.pure (.bl false)):=by
 obtain ⟨b,hb,_,e,e2⟩:=z7A h
 show ((keyD (.str [n])).map fun k=>S.pure (.bl (if true then !(valD (bs.map fun b=>((Sum.inr [b.1]:DKey),flD b.2)) k).isSome else (valD (bs.map fun b=>((Sum.inr [b.1]:DKey),flD b.2)) k).isSome)))=_
 simp only [keyD,Option.map_some,z9V,e,Option.map_some]
 rfl
theorem z72 {h w n:Nat} {bs:List (Nat×List Tx)} (R:Rul h w bs) (hn:n ∈ bs.map (·.1)):z17 [.pure (ruD h w bs),.pure (.str [n])]=some (.pure .non,[.pure (ruD h w bs),.pure (.str [n])]):=by
 obtain ⟨x0,x1,x2⟩:=z4k h w bs
 have hd:=z7x R
 have hi:=in_dc hn
 generalize ruD h w bs=ru at *
 generalize D.tup (bs.map blD)=bl at *
 rw [z17,z0T,z2Y]
 simp [ioOk,z0h,dTr,eIsi,isTy,bVar,eVar,eOpF,eOpN,x2,hd,hi,z0y,z0f]
def nt (bs:List (Nat×List Tx)) (n i j:Nat):Nat:=((blk bs n).getD i []).getD j 0
theorem nt_ok {h w n i j:Nat} {bs:List (Nat×List Tx)} (R:Rul h w bs) (hn:n ∈ bs.map (·.1)) (hi:i < h) (hj:j < w) :
  nt bs n i j ∈ bs.map (·.1)∧pIx (flD (blk bs n)) (.int i)=some (.pure (.str ((blk bs n).getD i [])))∧pIx (.str ((blk bs n).getD i [])) (.int j)=some (.pure (.str [nt bs n i j])):=by
 obtain ⟨b,hb,_,_,e2⟩:=z7A hn
 have hB:=R.blk b hb
 have h1:=R.h1
 have w1:=R.w1
 have hi':i < b.2.length:=by omega
 have hm:b.2.getD i [] ∈ b.2:=by
  rw [List.getD_eq_getElem?_getD,List.getElem?_eq_getElem hi']
  exact List.getElem_mem hi'
 have hr:=hB.2 _ hm
 unfold nt
 rw [e2]
 refine ⟨hr.2 _ ?_,?_,?_⟩
 ·have hj':j < (b.2.getD i []).length:=by omega
  generalize b.2.getD i []=row at hj'
  rw [List.getD_eq_getElem?_getD,List.getElem?_eq_getElem hj']
  exact List.getElem_mem hj'
 ·simp [pIx,z2N,hi']
 ·exact z69 _ j (by omega) (by omega)
open L2 DV
open PySem (sizeLine)
theorem z6M {A B J:Type} {g:DG} {b:DS} (emb:A→D) (mk:B→J→Dl) (f:B→A→B) (P:Nat→B→Prop) (Q:A→Prop) (N:Nat) (step:∀ k x j a,k < N→P k x→Q a→P (k + 1) (f x a)∧∃ δ1 j',g (.pure (emb a)) (mk x j)=some δ1∧b δ1 = .ok .next (mk (f x a) j')) :
  ∀ (as:List A) (k:Nat) (x:B) (j:J),k + as.length≤N→P k x→(∀ a ∈ as,Q a)→∃ j',forL g b (as.map emb) (mk x j) = .ok .next (mk (as.foldl f x) j')∧P (k + as.length) (as.foldl f x)
 | [],k,x,j,_,hp,_=>⟨j,rfl,hp⟩
 | a :: r,k,x,j,hN,hp,hq=>by
  simp only [List.length_cons] at hN
  obtain ⟨hp',δ1,j',e1,e2⟩:=step k x j a (by omega) hp (hq a List.mem_cons_self)
  obtain ⟨j'',e3,h3⟩:=z6M emb mk f P Q N step r (k + 1) (f x a) j' (by omega) hp' fun b hb=>hq b (List.mem_cons_of_mem _ hb)
  refine ⟨j'',?_,by rw [List.length_cons,show k + (r.length + 1)=k + 1 + r.length by omega]; exact h3⟩
  rw [List.map_cons]
  unfold forL
  rw [e1]
  simp only [e2,z1Y,e3]
  rfl
abbrev t1D (n:Nat):D:=.str [n]
theorem zc1 (ds:List D):pAll (.lst (ds.map fun _=>D.bl true))=some (.pure (.bl true)):=by
 have e:(ds.map fun _=>D.bl true)=(ds.map fun _=>true).map D.bl:=by simp
 unfold pAll
 simp only [e,z7u,Option.map_some]
 simp
theorem zb8 {cs:List Nat} {g:DG} {el:DE} (δ:Dl) (ds:List D) (hl:ds.length≤1000) (step:∀ d ∈ ds,∃ δ1 δ3,g (.pure d) δ=some δ1∧el δ1 = .ok (.pure (.bl true)) δ3∧clrD cs δ3=δ):z2F cs g dYes el ds δ [] = .ok (ds.map fun _=>.bl true) δ:=by
 have:=zb9 (cs:=cs) (g:=g) (t:=dYes) (el:=el) (fun _=>.bl true) δ ds [] (by rw [z1L]; simp; omega) (fun d hd=>by
  obtain ⟨δ1,δ3,e1,e2,e3⟩:=step d hd
  exact ⟨δ1,δ1,.pure (.bl true),δ3,e1,rfl,e2,e3,rfl⟩)
 simpa using this
def z5j (GD:DF):Prop:=∀ (d:D) (m:Nat),Pen d→0 < m→m < 1073741824→∃ (r:Nat) (d':D),GD [.own d,.pure (.int m)]=some (.pure (.int r),[.own d',.pure (.int m)])∧r < m∧Pen d'
theorem z7v:z5j z0d:=fun d m hp h0 h1=>z97 hp m h0 h1
theorem z56 {h w:Nat} {bs:List (Nat×List Tx)} (R:Rul h w bs):z0q [.pure (ruD h w bs)]=some (.own (.lst ((bs.map (·.1)).map t1D)),[.pure (ruD h w bs)]):=by
 have x2:=(z4k h w bs).2.2
 have hn:=R.n1
 generalize ruD h w bs=ru at *
 have e:=z1D (cs:=[1,2]) (g:=(gTp 2 (z0i (gNm [] 1) (z0i (gNm [] 2) z1F)))) (t:=dYes) (el:=eVar 1) blD (fun b:Nat×List Tx=>t1D b.1) [some (.pure ru),none,none] bs [] (by rw [z1L]; simp; omega) (fun b hb=>⟨_,_,.pure (t1D b.1),[some (.pure ru),some (.pure (t1D b.1)),some (.pure (flD b.2))],rfl,rfl,rfl,rfl,rfl⟩)
 rw [z0q,z0T,z3g]
 simp [ioOk,z0h,eOpF,eOpN,bVar,x2,z3r,z0x,clrD]
 rw [e]
 simp [z20,z0y,z0f,Function.comp_def]
open L2 DV
open PySem (sizeLine)
def lay1 (bs:List (Nat×List Tx)) (l:Nat) (row:Tx):Tx:=(row.map fun n=>(blk bs n).getD l []).flatten
def layR (h:Nat) (bs:List (Nat×List Tx)) (row:Tx):List Tx:=(List.range h).map fun l=>lay1 bs l row
def lay (h:Nat) (bs:List (Nat×List Tx)) (fl:List Tx):List Tx:=fl.flatMap (layR h bs)
structure Fl2 (bs:List (Nat×List Tx)) (R C:Nat) (fl:List Tx):Prop where
 rows:fl.length=R
 cols:∀ r ∈ fl,r.length=C
 tl:∀ r ∈ fl,∀ n ∈ r,n ∈ bs.map (·.1)
theorem z7R {h w l n:Nat} {bs:List (Nat×List Tx)} (R:Rul h w bs) (hn:n ∈ bs.map (·.1)) (hl:l < h):((blk bs n).getD l []).length=w∧(∀ k ∈ (blk bs n).getD l [],k ∈ bs.map (·.1))∧pIx (flD (blk bs n)) (.int l)=some (.pure (.str ((blk bs n).getD l []))):=by
 obtain ⟨b,hb,_,_,e2⟩:=z7A hn
 have hB:=R.blk b hb
 have hi':l < b.2.length:=by omega
 have hm:b.2.getD l [] ∈ b.2:=by
  rw [List.getD_eq_getElem?_getD,List.getElem?_eq_getElem hi']
  exact List.getElem_mem hi'
 have hr:=hB.2 _ hm
 rw [e2]
 exact ⟨hr.1,hr.2,by simp [pIx,z2N,hi']⟩
theorem z8R {h w l:Nat} {bs:List (Nat×List Tx)} (R:Rul h w bs) (hl:l < h):∀ row:Tx,(∀ n ∈ row,n ∈ bs.map (·.1))→(lay1 bs l row).length=row.length * w∧∀ k ∈ lay1 bs l row,k ∈ bs.map (·.1)
 | [],_=>by simp [lay1]
 | n :: r,h'=>by
  have ih:=z8R R hl r fun k hk=>h' k (List.mem_cons_of_mem _ hk)
  have h1:=z7R R (h' n List.mem_cons_self) hl
  have e:lay1 bs l (n :: r)=(blk bs n).getD l [] ++ lay1 bs l r:=rfl
  rw [e]
  refine ⟨by rw [List.length_append,h1.1,ih.1,List.length_cons,Nat.succ_mul,Nat.add_comm],fun k hk=>?_⟩
  rcases List.mem_append.mp hk with hk | hk
  ·exact h1.2.1 k hk
  ·exact ih.2 k hk
theorem z9e {h w:Nat} {bs:List (Nat×List Tx)} (R:Rul h w bs) {A C:Nat} {fl:List Tx} (F:Fl2 bs A C fl):Fl2 bs (A * h) (C * w) (lay h bs fl):=by
 refine ⟨?_,fun r hr=>?_,fun r hr=>?_⟩
 ·rw [← F.rows]
  clear F
  induction fl with
  | nil=>simp [lay]
  | cons x q ih =>
   have e:lay h bs (x :: q)=layR h bs x ++ lay h bs q:=rfl
   rw [e,List.length_append,ih,List.length_cons,Nat.succ_mul]
   simp [layR,Nat.add_comm]
 ·simp only [lay,List.mem_flatMap,layR,List.mem_map,List.mem_range] at hr
  obtain ⟨x,hx,l,hl,rfl⟩:=hr
  rw [(z8R R hl x (F.tl x hx)).1,F.cols x hx]
 ·simp only [lay,List.mem_flatMap,layR,List.mem_map,List.mem_range] at hr
  obtain ⟨x,hx,l,hl,rfl⟩:=hr
  exact (z8R R hl x (F.tl x hx)).2
theorem z63 (xs:List Tx) (m:Nat) (h:∀ x ∈ xs,x.length≤m):z3n xs≤xs.length * m:=by
 induction xs with
 | nil=>simp [z3n]
 | cons x r ih =>
  have h1:=h x List.mem_cons_self
  have h2:=ih fun y hy=>h y (List.mem_cons_of_mem _ hy)
  have e:z3n (x :: r)=x.length + z3n r:=by simp [z3n]
  rw [e,List.length_cons,Nat.succ_mul]
  omega
theorem z9N (xs:List Tx) (h:z3n xs≤16777216):z2t [] (.lst (xs.map .str))=some (.pure (.str xs.flatten)):=by
 unfold z2t
 simp only [z31,z3o]
 rw [if_pos (by simpa using h)]
theorem ze6 {h w:Nat} {bs:List (Nat×List Tx)} (R:Rul h w bs) {A C:Nat} {fl:List Tx} (F:Fl2 bs A C fl) (hA:A≤1000) (hC:C≤1000) :
  gOf [] 7 (dSeq (dAsg (eLst aNil) (gNm [] 3)) (dSeq (dFor (iSq (eVar 2)) (gNm [] 4) (dFor (z0S (eVar 1)) (gNm [] 5) (z0W 3 (eC1 (z2t []) (bOf (z28 [6] (iSq (eVar 4)) (gNm [] 6) dYes (eOp pIx (eOpF pIxX 0 (bVar 6)) (bVar 5)))))))) (dRet (eC1 z1Q (bVar 3))))) [.pure (dcD bs),.pure (.int h),.pure (flD fl)]=some (.pure (flD (lay h bs fl)),[.pure (dcD bs),.pure (.int h),.pure (flD fl)]):=by
 have h1:=R.h1
 have w1:=R.w1
 -- one new row
 have comp:∀ (acc:List Tx) (row:Tx) (l:Nat),row ∈ fl→l < h→z2F [6] (gNm [] 6) dYes (eOp pIx (eOpF pIxX 0 (bVar 6)) (bVar 5)) (row.map fun n=>.str [n]) [some (.pure (dcD bs)),some (.pure (.int h)),some (.pure (flD fl)),some (.own (.lst (acc.map .str))),some (.pure (.str row)),some (.pure (.int l)),none] [] = .ok ((row.map fun n=>(blk bs n).getD l []).map .str) [some (.pure (dcD bs)),some (.pure (.int h)),some (.pure (flD fl)),some (.own (.lst (acc.map .str))),some (.pure (.str row)),some (.pure (.int l)),none]:=fun acc row l hrow hl=>by
  have e:=z1D (cs:=[6]) (g:=gNm [] 6) (t:=dYes) (el:=(eOp pIx (eOpF pIxX 0 (bVar 6)) (bVar 5))) (fun n:Nat=>D.str [n]) (fun n=>.str ((blk bs n).getD l [])) [some (.pure (dcD bs)),some (.pure (.int h)),some (.pure (flD fl)),some (.own (.lst (acc.map .str))),some (.pure (.str row)),some (.pure (.int l)),none] row [] (by rw [z1L,F.cols row hrow]; simp; omega) (fun n hn=>by
   have hm:=F.tl row hrow n hn
   have y1:=zeL hm
   have y2:=(z7R R hm hl).2.2
   refine ⟨_,_,.pure (.str ((blk bs n).getD l [])),[some (.pure (dcD bs)),some (.pure (.int h)),some (.pure (flD fl)),some (.own (.lst (acc.map .str))),some (.pure (.str row)),some (.pure (.int l)),some (.pure (.str [n]))],rfl,rfl,?_,rfl,rfl⟩
   generalize D.str ((blk bs n).getD l [])=dr at *
   generalize flD (blk bs n)=db at *
   generalize flD fl=df at *
   generalize dcD bs=dd at *
   generalize acc.map D.str=ad at *
   simp [eOpF,eOpN,bVar,y1,y2])
  rw [e]
  simp [Function.comp_def]
 -- the rows of one row
 have inner:∀ (acc:List Tx) (row:Tx) (o:Option S),row ∈ fl→acc.length≤100000→∃ o',forL (gNm [] 5) (z0W 3 (eC1 (z2t []) (bOf (z28 [6] (iSq (eVar 4)) (gNm [] 6) dYes (eOp pIx (eOpF pIxX 0 (bVar 6)) (bVar 5)))))) (z1g 0 h) [some (.pure (dcD bs)),some (.pure (.int h)),some (.pure (flD fl)),some (.own (.lst (acc.map .str))),some (.pure (.str row)),o,none]
   = .ok .next [some (.pure (dcD bs)),some (.pure (.int h)),some (.pure (flD fl)),some (.own (.lst ((acc ++ layR h bs row).map .str))),some (.pure (.str row)),o',none]:=fun acc row o hrow hacc=>by
  obtain ⟨δ',e,o',rfl⟩:=z2d (g:=gNm [] 5) (b:=(z0W 3 (eC1 (z2t []) (bOf (z28 [6] (iSq (eVar 4)) (gNm [] 6) dYes (eOp pIx (eOpF pIxX 0 (bVar 6)) (bVar 5))))))) (fun k δ=>∃ o,δ=[some (.pure (dcD bs)),some (.pure (.int h)),some (.pure (flD fl)),some (.own (.lst ((acc ++ layR k bs row).map .str))),some (.pure (.str row)),o,none]) (z1g 0 h) 0 [some (.pure (dcD bs)),some (.pure (.int h)),some (.pure (flD fl)),some (.own (.lst (acc.map .str))),some (.pure (.str row)),o,none] ⟨o,by simp [layR]⟩ (fun i d δ hd ⟨o,e⟩=>by
   subst e
   obtain ⟨hi,rfl⟩:=z1H hd
   rw [Nat.zero_add]
   have hc:=comp (acc ++ layR i bs row) row i hrow hi
   have hj:z2t [] (.lst ((row.map fun n=>(blk bs n).getD i []).map .str))=some (.pure (.str (lay1 bs i row))):=z9N _ (by
    have hs:=z63 (row.map fun n=>(blk bs n).getD i []) w (fun x hx=>by
     obtain ⟨n,hn,rfl⟩:=List.mem_map.mp hx
     rw [(z7R R (F.tl row hrow n hn) hi).1]
     exact Nat.le_refl _)
    rw [List.length_map,F.cols row hrow] at hs
    have:C * w≤1000 * 4:=Nat.mul_le_mul hC w1
    omega)
   have hz:((acc ++ layR i bs row).map D.str).length < sizeLine:=by
    rw [z1L]
    simp [layR]
    omega
   have hE:(acc ++ layR (i + 1) bs row).map D.str=(acc ++ layR i bs row).map D.str ++ [.str (lay1 bs i row)]:=by
    simp [layR,List.range_succ]
   refine ⟨_,[some (.pure (dcD bs)),some (.pure (.int h)),some (.pure (flD fl)),some (.own (.lst ((acc ++ layR (i + 1) bs row).map .str))),some (.pure (.str row)),some (.pure (.int i)),none],rfl,?_,_,rfl⟩
   rw [hE]
   generalize lay1 bs i row=nr at *
   generalize (row.map fun n=>(blk bs n).getD i []).map D.str=XS at *
   generalize (acc ++ layR i bs row).map D.str=AD at *
   generalize flD fl=df at *
   generalize dcD bs=dd at *
   simp [z0W,z3K,z3r,eVar,z0x,clrD]
   rw [hc]
   simp [z20,hj,putL,hz])
  rw [Nat.zero_add,z2R] at e
  exact ⟨o',e⟩
 have outer:∃ o4 o5,forL (gNm [] 4) (dFor (z0S (eVar 1)) (gNm [] 5) (z0W 3 (eC1 (z2t []) (bOf (z28 [6] (iSq (eVar 4)) (gNm [] 6) dYes (eOp pIx (eOpF pIxX 0 (bVar 6)) (bVar 5))))))) (fl.map .str) [some (.pure (dcD bs)),some (.pure (.int h)),some (.pure (flD fl)),some (.own (.lst [])),none,none,none]
   = .ok .next [some (.pure (dcD bs)),some (.pure (.int h)),some (.pure (flD fl)),some (.own (.lst ((lay h bs fl).map .str))),o4,o5,none]:=by
  obtain ⟨δ',e,o4,o5,rfl⟩:=z2d (g:=gNm [] 4) (b:=(dFor (z0S (eVar 1)) (gNm [] 5) (z0W 3 (eC1 (z2t []) (bOf (z28 [6] (iSq (eVar 4)) (gNm [] 6) dYes (eOp pIx (eOpF pIxX 0 (bVar 6)) (bVar 5)))))))) (fun k δ=>∃ o4 o5,δ=[some (.pure (dcD bs)),some (.pure (.int h)),some (.pure (flD fl)),some (.own (.lst ((lay h bs (fl.take k)).map .str))),o4,o5,none]) (fl.map D.str) 0 [some (.pure (dcD bs)),some (.pure (.int h)),some (.pure (flD fl)),some (.own (.lst [])),none,none,none] ⟨none,none,by simp [lay]⟩ (fun i d δ hd ⟨o4,o5,e⟩=>by
   subst e
   rw [List.getElem?_map,Option.map_eq_some_iff] at hd
   obtain ⟨row,hrow,rfl⟩:=hd
   rw [Nat.zero_add]
   have hi:i < fl.length:=(List.getElem?_eq_some_iff.mp hrow).1
   have hlen:(lay h bs (fl.take i)).length≤100000:=by
    have F':Fl2 bs (fl.take i).length C (fl.take i):=⟨rfl,fun r hr=>F.cols r (List.mem_of_mem_take hr),fun r hr=>F.tl r (List.mem_of_mem_take hr)⟩
    have:=(z9e R F').rows
    rw [this]
    have h2:(fl.take i).length≤1000:=by have:=F.rows; rw [List.length_take]; omega
    have:(fl.take i).length * h≤1000 * 4:=Nat.mul_le_mul h2 h1
    omega
   obtain ⟨o',e⟩:=inner (lay h bs (fl.take i)) row o5 (List.mem_of_getElem? hrow) hlen
   have hE:lay h bs (fl.take (i + 1))=lay h bs (fl.take i) ++ layR h bs row:=by
    rw [List.take_add_one,hrow]
    simp [lay]
   refine ⟨_,[some (.pure (dcD bs)),some (.pure (.int h)),some (.pure (flD fl)),some (.own (.lst ((lay h bs (fl.take (i + 1))).map .str))),some (.pure (.str row)),o',none],rfl,?_,_,_,rfl⟩
   rw [hE]
   generalize (lay h bs (fl.take i) ++ layR h bs row).map D.str=AD at *
   generalize (lay h bs (fl.take i)).map D.str=AE at *
   generalize flD fl=df at *
   generalize dcD bs=dd at *
   simp only [zb0,z8j,eVar,List.set_cons_succ,List.set_cons_zero,List.getElem?_cons_succ,List.getElem?_cons_zero,z1Y,z4d h (by omega:h≤1000000)]
   exact e)
  refine ⟨o4,o5,?_⟩
  rw [e]
  simp
 obtain ⟨o4,o5,e⟩:=outer
 have hsq:∀ δ:Dl,δ[2]? = some (some (.pure (flD fl)))→iSq (eVar 2) δ = .ok (fl.map .str) δ:=fun δ hδ=>by
  simp [z3r,eVar,hδ]
 rw [z0T]
 generalize hAD:(lay h bs fl).map D.str=AD at *
 generalize dcD bs=dd at *
 simp [ioOk,z0h,dAsg,z3r,eVar]
 rw [e]
 simp [bVar,z1Q,z0y,z0f]
 exact hAD.symm
theorem zc7 {h w:Nat} {bs:List (Nat×List Tx)} (R:Rul h w bs) {A C:Nat} {fl:List Tx} (F:Fl2 bs A C fl) (hA:A≤1000) (hC:C≤1000):z0X [.pure (dcD bs),.pure (.int h),.pure (flD fl)]=some (.pure (flD (lay h bs fl)),[.pure (dcD bs),.pure (.int h),.pure (flD fl)]):=by
 rw [z0X,z40]
 exact ze6 R F hA hC
open L2 DV
open PySem (sizeLine)
def far (h w:Nat) (bs:List (Nat×List Tx)) (n:Nat):Nat→Nat→Nat→Nat
 | 0,_,_=>n
 | t + 1,r,c=>nt bs (far h w bs n t (r / h) (c / w)) (r % h) (c % w)
theorem z4s {h w n:Nat} {bs:List (Nat×List Tx)} (R:Rul h w bs) (hn:n ∈ bs.map (·.1)):∀ t r c,far h w bs n t r c ∈ bs.map (·.1)
 | 0,_,_=>hn
 | t + 1,r,c=>(nt_ok R (z4s R hn t _ _) (Nat.mod_lt _ R.h0) (Nat.mod_lt _ R.w0)).1
def grid (f:Nat→Nat→Nat) (A C:Nat):List Tx:=(List.range A).map fun i=>(List.range C).map (f i)
theorem z6L {f g:Nat→Nat→Nat} {A C:Nat} (h:∀ i,i < A→∀ j,j < C→f i j=g i j):grid f A C=grid g A C:=by
 unfold grid
 refine List.map_congr_left fun i hi=>?_
 refine List.map_congr_left fun j hj=>?_
 exact h i (by simpa using hi) j (by simpa using hj)
theorem z7T (a:Nat):∀ b,List.range (a + b)=List.range a ++ (List.range b).map (a + ·)
 | 0=>by simp
 | b + 1=>by
  rw [← Nat.add_assoc,List.range_succ,z7T a b,List.range_succ]
  simp
theorem z55 {α:Type} (φ:Nat→Nat→α) {w:Nat} (w0:0 < w):∀ C,(List.range C).flatMap (fun j=>(List.range w).map (φ j))=(List.range (C * w)).map fun b=>φ (b / w) (b % w)
 | 0=>by simp
 | C + 1=>by
  rw [List.range_succ,List.flatMap_append,z55 φ w0 C,Nat.succ_mul,z7T,List.map_append]
  congr 1
  simp only [List.flatMap_cons,List.flatMap_nil,List.append_nil,List.map_map]
  refine List.map_congr_left fun m hm=>?_
  have hm':m < w:=by simpa using hm
  simp only [Function.comp_def]
  rw [show (C * w + m) / w=C by rw [Nat.add_comm,Nat.add_mul_div_right _ _ w0,Nat.div_eq_of_lt hm',Nat.zero_add],show (C * w + m) % w=m by rw [Nat.add_comm,Nat.add_mul_mod_self_right,Nat.mod_eq_of_lt hm']]
theorem zac {h w l x:Nat} {bs:List (Nat×List Tx)} (R:Rul h w bs) (hx:x ∈ bs.map (·.1)) (hl:l < h):(blk bs x).getD l []=(List.range w).map (nt bs x l):=by
 have h1:=(z7R R hx hl).1
 apply List.ext_getElem
 ·simpa using h1
 ·intro j h2 h3
  rw [List.getElem_map,List.getElem_range]
  unfold nt
  generalize (blk bs x).getD l []=row at *
  simp [h2]
theorem z7l {h w:Nat} {bs:List (Nat×List Tx)} (R:Rul h w bs) (f:Nat→Nat→Nat) (A C:Nat) (hf:∀ i j,f i j ∈ bs.map (·.1)):lay h bs (grid f A C)=grid (fun a b=>nt bs (f (a / h) (b / w)) (a % h) (b % w)) (A * h) (C * w):=by
 have e1:∀ i l,l < h→lay1 bs l ((List.range C).map (f i))=(List.range (C * w)).map fun b=>nt bs (f i (b / w)) l (b % w):=fun i l hl=>by
  unfold lay1
  rw [List.map_map]
  have:(List.range C).map ((fun n=>(blk bs n).getD l []) ∘ f i)=(List.range C).map fun j=>(List.range w).map (nt bs (f i j) l):=List.map_congr_left fun j _=>zac R (hf i j) hl
  rw [this,← List.flatMap_def,z55 (fun j m=>nt bs (f i j) l m) R.w0 C]
 have e2:∀ i,layR h bs ((List.range C).map (f i))=(List.range h).map fun l=>(List.range (C * w)).map fun b=>nt bs (f i (b / w)) l (b % w):=fun i=>by
  unfold layR
  exact List.map_congr_left fun l hl=>e1 i l (by simpa using hl)
 unfold lay grid
 rw [List.flatMap_map]
 have e3:(List.range A).flatMap (fun i=>layR h bs ((List.range C).map (f i)))=(List.range A).flatMap fun i=>(List.range h).map fun l=>(List.range (C * w)).map fun b=>nt bs (f i (b / w)) l (b % w):=by
  rw [List.flatMap_def,List.flatMap_def]
  congr 1
  exact List.map_congr_left fun i _=>e2 i
 rw [e3,z55 (fun i l=>(List.range (C * w)).map fun b=>nt bs (f i (b / w)) l (b % w)) R.h0 A]
theorem z7p {bs:List (Nat×List Tx)} {f:Nat→Nat→Nat} (A C:Nat) (hf:∀ i j,f i j ∈ bs.map (·.1)):Fl2 bs A C (grid f A C):=by
 refine ⟨by simp [grid],fun r hr=>?_,fun r hr x hx=>?_⟩
 ·simp [grid] at hr; obtain ⟨i,_,rfl⟩:=hr; simp
 ·simp only [grid,List.mem_map] at hr; obtain ⟨i,_,rfl⟩:=hr
  obtain ⟨j,_,rfl⟩:=List.mem_map.mp hx
  exact hf i j
theorem z4W {α β:Type} (f:α→β) (xs:List α) (lo hi:Option Int):cutL (xs.map f) lo hi=(cutL xs lo hi).map f:=by
 unfold cutL
 simp [List.map_drop,List.map_take]
theorem z6O {A r k:Nat} (h:r + k≤A):cutL (List.range A) (some (r:Int)) (some ((r:Int) + (k:Int)))=(List.range k).map (r + ·):=by
 have h1:¬ (r:Int) < 0:=by omega
 have h2:¬ (r:Int) + (k:Int) < 0:=by omega
 have h3:((r:Int) + (k:Int)).toNat=r + k:=by omega
 unfold cutL HT.sIx
 simp only [h1,h2,if_false,h3,List.length_range,Int.toNat_natCast]
 rw [show min r A=r by omega,show min (r + k) A - r=k by omega]
 apply List.ext_getElem
 ·simp; omega
 ·intro i h4 h5
  simp
def cut (fl:List Tx) (r c h w:Int):List Tx:=(cutL fl (some r) (some (r + h))).map fun t=>cutL t (some c) (some (c + w))
theorem z9t (f:Nat→Nat→Nat) {A C r c k m:Nat} (h1:r + k≤A) (h2:c + m≤C):cut (grid f A C) r c k m=grid (fun i j=>f (r + i) (c + j)) k m:=by
 unfold cut grid
 rw [z4W,z6O h1,List.map_map,List.map_map]
 refine List.map_congr_left fun i _=>?_
 simp only [Function.comp_def]
 rw [z4W,z6O h2,List.map_map]
 rfl
theorem sl_tup (ds:List D) (lo hi:Option Int):pSl lo hi (.tup ds)=some (.pure (.tup (cutL ds lo hi))):=rfl
theorem sl_str (x:Tx) (h:x.length≤100000) (lo hi:Option Int):pSl lo hi (.str x)=some (.pure (.str (cutL x lo hi))):=by
 unfold pSl
 have:sizeLine=16777216:=rfl
 simp only
 rw [if_pos (by omega)]
theorem zbU {fl:List Tx} (h1:fl.length≤100000) (h2:∀ r ∈ fl,r.length≤100000) {cs:List Nat} {g:DG} {el:DE} (c w:Int) (lo hi:Option Int) (δ:Dl) (step:∀ t:Tx,t.length≤100000→∃ δ1 δ3,g (.pure (.str t)) δ=some δ1∧el δ1 = .ok (.pure (.str (cutL t (some c) (some (c + w))))) δ3∧clrD cs δ3=δ) :
  z2F cs g dYes el (cutL (fl.map .str) lo hi) δ [] = .ok (((cutL fl lo hi).map fun t=>cutL t (some c) (some (c + w))).map .str) δ:=by
 rw [z4W]
 have hl:(cutL fl lo hi).length≤100000:=by have:=z4X fl lo hi; omega
 have:=z1D (cs:=cs) (g:=g) (t:=dYes) (el:=el) D.str (fun t=>.str (cutL t (some c) (some (c + w)))) δ (cutL fl lo hi) [] (by rw [z1L]; simp; omega) (fun t ht=>by
  obtain ⟨δ1,δ3,e1,e2,e3⟩:=step t (h2 t (List.mem_of_mem_drop (List.mem_of_mem_take ht)))
  exact ⟨δ1,δ1,.pure (.str (cutL t (some c) (some (c + w)))),δ3,e1,rfl,e2,e3,rfl⟩)
 rw [this]
 simp [Function.comp_def]
theorem zbz {fl:List Tx} (h1:fl.length≤100000) (h2:∀ r ∈ fl,r.length≤100000) (r c h w:Int):gOf [] 6 (dRet (eC1 z1Q (bOf (z28 [5] (iSq (eSlN 0 (z19 (eVar 1)) (z19 (eOpF pAdd 1 (bVar 3))))) (gNm [] 5) dYes (eSlN 5 (z19 (eVar 2)) (z19 (eOpF pAdd 2 (bVar 4)))))))) [.pure (flD fl),.pure (.int r),.pure (.int c),.pure (.int h),.pure (.int w)]=some (.pure (flD (cut fl r c h w)),[.pure (flD fl),.pure (.int r),.pure (.int c),.pure (.int h),.pure (.int w)]):=by
 have e:=zbU h1 h2 (cs:=[5]) (g:=gNm [] 5) (el:=eSlN 5 (z19 (eVar 2)) (z19 (eOpF pAdd 2 (bVar 4)))) c w (some r) (some (r + h)) [some (.pure (flD fl)),some (.pure (.int r)),some (.pure (.int c)),some (.pure (.int h)),some (.pure (.int w)),none] (fun t ht=>by
  refine ⟨_,[some (.pure (flD fl)),some (.pure (.int r)),some (.pure (.int c)),some (.pure (.int h)),some (.pure (.int w)),some (.pure (.str t))],rfl,?_,rfl⟩
  simp [eSlN,z19,eVar,eOpF,eOpN,bVar,pAdd,sl_str t (by omega)])
 rw [z0T]
 simp [ioOk,z0h,z3r,eSlN,z19,eVar,eOpF,eOpN,bVar,pAdd,sl_tup,z0x,clrD]
 rw [e]
 simp [z20,z1Q,z0y,z0f,cut]
theorem z48 (f:Nat→Nat→Nat) (A C:Nat):(grid f A C).length=A∧∀ r ∈ grid f A C,r.length=C:=by
 refine ⟨by simp [grid],fun r hr=>?_⟩
 simp [grid] at hr; obtain ⟨i,_,rfl⟩:=hr; simp
theorem z8A (f:Nat→Nat→Nat) {A C r c k m:Nat} (hA:A≤100000) (hC:C≤100000) (h1:r + k≤A) (h2:c + m≤C):z18 [.pure (flD (grid f A C)),.pure (.int r),.pure (.int c),.pure (.int k),.pure (.int m)]=some (.pure (flD (grid (fun i j=>f (r + i) (c + j)) k m)),[.pure (flD (grid f A C)),.pure (.int r),.pure (.int c),.pure (.int k),.pure (.int m)]):=by
 rw [← z9t f h1 h2,z18,z3F]
 exact zbz (by rw [(z48 f A C).1]; exact hA) (fun r hr=>by rw [(z48 f A C).2 r hr]; exact hC) _ _ _ _
theorem zbP (f:Nat→Nat→Nat) {A C:Nat} (hA:0 < A) (hC:C≤1000):∃ d,pIx (flD (grid f A C)) (.int 0)=some (.pure d)∧pLen d=some (.pure (.int C)):=by
 refine ⟨.str ((List.range C).map (f 0)),?_,?_⟩
 ·have:=List.getElem?_eq_getElem (l:=List.range A) (i:=0) (by simpa using hA)
  simp [pIx,z2f,grid,this]
 ·have hz:sizeLine=16777216:=rfl
  simp [pLen]
  omega
open L2 DV
open PySem (sizeLine)
theorem zdp (a b:Nat) (x:Int) (hx:x=a) (h0:0 < b) (h1:b≤1000):pDiv (.int x) (.int b)=some (.pure (.int ((a / b:Nat):Int))):=by subst hx; exact z8T a b h0 h1
theorem z7w (a b:Nat) (x:Int) (hx:x=a) (h0:0 < b) (h1:b < 2 ^ 200):z5T (.int x) (.int b)=some (.pure (.int ((a / b:Nat):Int))):=by
 subst hx
 rw [zbH _ _ (by omega) (by
  unfold bigB
  have e:((2 ^ 200:Nat):Int)≤(2:Int) ^ 1000:=by
   have:((2 ^ 200:Nat):Int)≤((2 ^ 1000:Nat):Int):=Int.ofNat_le.mpr (Nat.pow_le_pow_right (by decide) (by decide))
   rw [Int.natCast_pow 2 1000] at this
   exact this
  exact Int.lt_of_lt_of_le (Int.ofNat_lt.mpr h1) e)]
 rfl
abbrev B4_ (GC GL:DF):DS:=dSeq (dAsg (eOpF pDiv 9 (bOf (eOpF pIx 0 (bOf (eD (.int 0)))))) (gNm [] 9)) (dSeq (dAsg (eOpF pDiv 10 (bOf (eOpF pIx 0 (bOf (eD (.int 1)))))) (gNm [] 10)) (dSeq (dAsg (eOpF z5T 4 (bVar 9)) (gNm [] 15)) (dSeq (dAsg (eOpF z5T 5 (bVar 10)) (gNm [] 16)) (dSeq (dAsg (eOp pAdd (eOp pSub (eOp z5T (eOp pSub (eOpF pAdd 4 (bVar 6)) (bOf (eD (.int 1)))) (bVar 9)) (bVar 15)) (bOf (eD (.int 1)))) (gNm [] 17)) (dSeq (dAsg (eOp pAdd (eOp pSub (eOp z5T (eOp pSub (eOpF pAdd 5 (bVar 7)) (bOf (eD (.int 1)))) (bVar 10)) (bVar 16)) (bOf (eD (.int 1)))) (gNm [] 18)) (dSeq (dAsg (z05 GL [.val (eVar 8),.val (eOpF pIx 0 (bOf (eD (.int 0)))),.val (eVar 11)]) (gNm [] 19)) (dSeq (dAsg (z05 GC [.val (eVar 19),.val (eOpF pSub 15 (bOf (eOpF z2g 12 (bOf (eOpF pIx 0 (bOf (eD (.int 0)))))))),.val (eOpF pSub 16 (bOf (eOpF z2g 13 (bOf (eOpF pIx 0 (bOf (eD (.int 1)))))))),.val (eVar 17),.val (eVar 18)]) (gNm [] 11)) (dSeq (dAsg (eVar 15) (gNm [] 12)) (dAsg (eVar 16) (gNm [] 13))))))))))
theorem z9F (GG GL GC:DF) (ru bl dd:D) (KP GW:Nat→List Tx) (h w t n r c HH WW:Nat) (h0:0 < h) (h1:h≤4) (w0:0 < w) (w1:w≤4) (ht:t≤60) (hH:0 < HH) (hW:0 < WW) (p q FT SL LT MT RT CT OF OG:Nat→Nat)
  (hp1:∀ k,k < t→p (t - k) / h=p (t - (k + 1))) (hp2:∀ k,k≤t→0 < p k∧p k < 2 ^ 200) (hq1:∀ k,k < t→q (t - k) / w=q (t - (k + 1))) (hq2:∀ k,k≤t→0 < q k∧q k < 2 ^ 200)
  (hF:∀ k,k < t→r / p (t - (k + 1))=FT (k + 1)) (hS:∀ k,k < t→c / q (t - (k + 1))=SL (k + 1)) (hL:∀ k,k < t→(r + HH - 1) / p (t - (k + 1))=LT (k + 1)) (hM:∀ k,k < t→(c + WW - 1) / q (t - (k + 1))=MT (k + 1))
  (hR:∀ k,k < t→(LT (k + 1):Int) - (FT (k + 1):Int) + 1=(RT (k + 1):Int)) (hC:∀ k,k < t→(MT (k + 1):Int) - (SL (k + 1):Int) + 1=(CT (k + 1):Int)) (hO:∀ k,k < t→(FT (k + 1):Int) - (FT k:Int) * (h:Int)=(OF k:Int)) (hP:∀ k,k < t→(SL (k + 1):Int) - (SL k:Int) * (w:Int)=(OG k:Int))
  (hF0:FT 0=0) (hS0:SL 0=0) (hf0:KP 0=[[n]]) (x0:pIx ru (.int 0)=some (.pure (.int h))) (x1:pIx ru (.int 1)=some (.pure (.int w))) (x2:pIx ru (.int 2)=some (.pure bl)) (hdc:z2E bl=some (.own dd))
  (g1:GG [.pure (.int 1),.pure (.int h),.pure (.int t)]=some (.pure (.int (p t)),[.pure (.int 1),.pure (.int h),.pure (.int t)])) (g2:GG [.pure (.int 1),.pure (.int w),.pure (.int t)]=some (.pure (.int (q t)),[.pure (.int 1),.pure (.int w),.pure (.int t)]))
  (gl:∀ k,k < t→GL [.pure dd,.pure (.int h),.pure (flD (KP k))]=some (.pure (flD (GW k)),[.pure dd,.pure (.int h),.pure (flD (KP k))]))
  (gc:∀ k,k < t→GC [.pure (flD (GW k)),.pure (.int (OF k)),.pure (.int (OG k)),.pure (.int (RT (k + 1))),.pure (.int (CT (k + 1)))]=some (.pure (flD (KP (k + 1))),[.pure (flD (GW k)),.pure (.int (OF k)),.pure (.int (OG k)),.pure (.int (RT (k + 1))),.pure (.int (CT (k + 1)))])) :
  gOf [] 20 (dSeq (dAsg (eVar 3) (gTp 4 (z0i (gNm [] 4) (z0i (gNm [] 5) (z0i (gNm [] 6) (z0i (gNm [] 7) z1F)))))) (dSeq (dAsg (eC1 z2E (bOf (eOpF pIx 0 (bOf (eD (.int 2)))))) (gNm [] 8)) (dSeq (dAsg (z05 GG [.val (eD (.int 1)),.val (eOpF pIx 0 (bOf (eD (.int 0)))),.val (eVar 2)]) (gNm [] 9)) (dSeq (dAsg (z05 GG [.val (eD (.int 1)),.val (eOpF pIx 0 (bOf (eD (.int 1)))),.val (eVar 2)]) (gNm [] 10)) (dSeq (dAsg (eTup (z09 (eVar 1) aNil)) (gNm [] 11)) (dSeq (dAsg (eD (.int 0)) (gNm [] 12)) (dSeq (dAsg (eD (.int 0)) (gNm [] 13)) (dSeq (dFor (z0S (eVar 2)) (gNm [] 14) (B4_ GC GL)) (dRet (eVar 11)))))))))) [.pure ru,.pure (.str [n]),.pure (.int t),.pure (.tup [.int r,.int c,.int HH,.int WW])]=some (.pure (flD (KP t)),[.pure ru,.pure (.str [n]),.pure (.int t),.pure (.tup [.int r,.int c,.int HH,.int WW])]):=by
 obtain ⟨δ',e,s8,o14,o15,o16,o17,o18,o19,h8,rfl⟩:=z2d (g:=(gNm [] 14)) (b:=(B4_ GC GL)) (fun k δ=>∃ (s8:S) (o14 o15 o16 o17 o18 o19:Option S),(s8 = .own dd∨s8 = .pure dd)∧δ=[some (.pure ru),some (.pure (.str [n])),some (.pure (.int t)),some (.pure (.tup [.int r,.int c,.int HH,.int WW])),some (.pure (.int r)),some (.pure (.int c)),some (.pure (.int HH)),some (.pure (.int WW)),some s8,some (.pure (.int (p (t - k)))),some (.pure (.int (q (t - k)))),some (.pure (flD (KP k))),some (.pure (.int (FT k))),some (.pure (.int (SL k))),o14,o15,o16,o17,o18,o19]) (z1g 0 t) 0 [some (.pure ru),some (.pure (.str [n])),some (.pure (.int t)),some (.pure (.tup [.int r,.int c,.int HH,.int WW])),some (.pure (.int r)),some (.pure (.int c)),some (.pure (.int HH)),some (.pure (.int WW)),some (.own dd),some (.pure (.int (p (t - 0)))),some (.pure (.int (q (t - 0)))),some (.pure (flD (KP 0))),some (.pure (.int (FT 0))),some (.pure (.int (SL 0))),none,none,none,none,none,none] ⟨.own dd,none,none,none,none,none,none,.inl rfl,rfl⟩ (fun i d δ hd ⟨s8,o14,o15,o16,o17,o18,o19,h8,e⟩=>by
  subst e
  obtain ⟨hi,rfl⟩:=z1H hd
  rw [Nat.zero_add]
  have a1:=hp2 (t - i) (by omega)
  have a2:=hp2 (t - (i + 1)) (by omega)
  have b1:=hq2 (t - i) (by omega)
  have b2:=hq2 (t - (i + 1)) (by omega)
  have m1:=z8T (p (t - i)) h h0 (by omega)
  rw [hp1 i hi] at m1
  have m2:=z8T (q (t - i)) w w0 (by omega)
  rw [hq1 i hi] at m2
  have m3:=z7w r (p (t - (i + 1))) (r:Int) rfl a2.1 a2.2
  rw [hF i hi] at m3
  have m4:=z7w c (q (t - (i + 1))) (c:Int) rfl b2.1 b2.2
  rw [hS i hi] at m4
  have m5:=z7w (r + HH - 1) (p (t - (i + 1))) ((r:Int) + (HH:Int) - 1) (by omega) a2.1 a2.2
  rw [hL i hi] at m5
  have m6:=z7w (c + WW - 1) (q (t - (i + 1))) ((c:Int) + (WW:Int) - 1) (by omega) b2.1 b2.2
  rw [hM i hi] at m6
  have u1:pAdd (.int r) (.int HH)=some (.pure (.int ((r:Int) + (HH:Int)))):=rfl
  have u2:pAdd (.int c) (.int WW)=some (.pure (.int ((c:Int) + (WW:Int)))):=rfl
  have u3:pSub (.int ((r:Int) + (HH:Int))) (.int 1)=some (.pure (.int ((r:Int) + (HH:Int) - 1))):=rfl
  have u4:pSub (.int ((c:Int) + (WW:Int))) (.int 1)=some (.pure (.int ((c:Int) + (WW:Int) - 1))):=rfl
  have u5:pSub (.int (LT (i + 1))) (.int (FT (i + 1)))=some (.pure (.int ((LT (i + 1):Int) - (FT (i + 1):Int)))):=rfl
  have u6:pSub (.int (MT (i + 1))) (.int (SL (i + 1)))=some (.pure (.int ((MT (i + 1):Int) - (SL (i + 1):Int)))):=rfl
  have u7:pAdd (.int ((LT (i + 1):Int) - (FT (i + 1):Int))) (.int 1)=some (.pure (.int (RT (i + 1)))):=by rw [← hR i hi]; rfl
  have u8:pAdd (.int ((MT (i + 1):Int) - (SL (i + 1):Int))) (.int 1)=some (.pure (.int (CT (i + 1)))):=by rw [← hC i hi]; rfl
  have n1:=mul_int (FT i) h (by omega) (by omega)
  have n2:=mul_int (SL i) w (by omega) (by omega)
  have n3:pSub (.int (FT (i + 1))) (.int ((FT i:Int) * (h:Int)))=some (.pure (.int (OF i))):=by rw [← hO i hi]; rfl
  have n4:pSub (.int (SL (i + 1))) (.int ((SL i:Int) * (w:Int)))=some (.pure (.int (OG i))):=by rw [← hP i hi]; rfl
  have k1:=gl i hi
  have k2:=gc i hi
  generalize D.int ((r:Int) + (HH:Int) - 1)=e1 at *
  generalize D.int ((c:Int) + (WW:Int) - 1)=e2 at *
  generalize D.int ((r:Int) + (HH:Int))=e3 at *
  generalize D.int ((c:Int) + (WW:Int))=e4 at *
  generalize D.int ((LT (i + 1):Int) - (FT (i + 1):Int))=e5 at *
  generalize D.int ((MT (i + 1):Int) - (SL (i + 1):Int))=e6 at *
  generalize D.int (LT (i + 1):Int)=e7 at *
  generalize D.int (MT (i + 1):Int)=e8 at *
  generalize D.int ((FT i:Int) * (h:Int))=e9 at *
  generalize D.int ((SL i:Int) * (w:Int))=e10 at *
  generalize D.int (FT (i + 1):Int)=f1 at *
  generalize D.int (SL (i + 1):Int)=f2 at *
  generalize D.int (p (t - (i + 1)):Int)=f3 at *
  generalize D.int (q (t - (i + 1)):Int)=f4 at *
  generalize D.int (p (t - i):Int)=f5 at *
  generalize D.int (q (t - i):Int)=f6 at *
  generalize D.int (RT (i + 1):Int)=f9 at *
  generalize D.int (CT (i + 1):Int)=f10 at *
  generalize D.int (OF i:Int)=f11 at *
  generalize D.int (OG i:Int)=f12 at *
  generalize hcut:D.tup [.int r,.int c,.int HH,.int WW]=ct at *
  generalize flD (KP (i + 1))=fb at *
  generalize flD (GW i)=fw at *
  generalize flD (KP i)=fa at *
  generalize D.int (FT i:Int)=f13 at *
  generalize D.int (SL i:Int)=f14 at *
  refine ⟨_,[some (.pure ru),some (.pure (.str [n])),some (.pure (.int t)),some (.pure ct),some (.pure (.int r)),some (.pure (.int c)),some (.pure (.int HH)),some (.pure (.int WW)),some (.pure dd),some (.pure f3),some (.pure f4),some (.pure fb),some (.pure f1),some (.pure f2),some (.pure (.int i)),some (.pure f1),some (.pure f2),some (.pure f9),some (.pure f10),some (.pure fw)],rfl,?_,.pure dd,_,_,_,_,_,_,.inr rfl,rfl⟩
  rcases h8 with rfl | rfl
  ·simp [dAsg,eOpF,eOpN,bVar,x0,x1,m1,m2,m3,m4,u1,u2,u3,u4,m5,m6,u5,u6,u7,u8,z05,ios,ndup,z0x,evX,eVar,mkA,k1,putA,n1,n2,n3,n4,k2]
  ·simp [dAsg,eOpF,eOpN,bVar,x0,x1,m1,m2,m3,m4,u1,u2,u3,u4,m5,m6,u5,u6,u7,u8,z05,ios,ndup,z0x,evX,eVar,mkA,k1,putA,n1,n2,n3,n4,k2])
 rw [Nat.zero_add,z2R] at e
 clear gl gc hp1 hp2 hq1 hq2 hF hS hL hM hR hC hO hP
 rw [Nat.sub_zero,hF0,hS0] at e
 rw [z0T]
 have hn:D.tup [.str [n]]=flD (KP 0):=by rw [hf0]; rfl
 have z0:D.int ((0:Nat):Int) = .int 0:=rfl
 rw [z0] at e
 generalize D.int (p (t - t):Int)=z1 at *
 generalize D.int (q (t - t):Int)=z2 at *
 generalize D.int (p t:Int)=f7 at *
 generalize D.int (q t:Int)=f8 at *
 generalize D.int (FT t:Int)=z3 at *
 generalize D.int (SL t:Int)=z4 at *
 generalize flD (KP t)=ft at *
 generalize flD (KP 0)=f0 at *
 simp [ioOk,z0h,dAsg,eVar,gTp,z0i,z1F,eOpF,eOpN,bVar,x0,x1,x2,hdc,z05,ios,ndup,z0x,evX,mkA,g1,g2,putA,hn,z4d t (by omega)]
 rw [e]
 simp [eVar,z0y,z0f]
theorem z7G {h t r HH:Nat} (h0:0 < h) (hH:0 < HH) (hr:r + HH≤h ^ t) (hT:h ^ t < 2 ^ 200) :
  (∀ k,k < t→h ^ (t - k) / h=h ^ (t - (k + 1)))∧(∀ k,k≤t→0 < h ^ k∧h ^ k < 2 ^ 200)∧r / h ^ (t - 0)=0∧(r + HH - 1) / h ^ (t - 0) - r / h ^ (t - 0) + 1=1 ∧
  (∀ k,k < t→r / h ^ (t - k)=r / h ^ (t - (k + 1)) / h∧(r + HH - 1) / h ^ (t - k)=(r + HH - 1) / h ^ (t - (k + 1)) / h)∧(∀ k,k≤t→r / h ^ (t - k)≤(r + HH - 1) / h ^ (t - k)∧(r + HH - 1) / h ^ (t - k) - r / h ^ (t - k) + 1≤HH + 1):=by
 refine ⟨fun k hk=>?_,fun k hk=>⟨Nat.pow_pos h0,Nat.lt_of_le_of_lt (Nat.pow_le_pow_right h0 hk) hT⟩,?_,?_,fun k hk=>?_,fun k hk=>?_⟩
 ·have:t - k=(t - (k + 1)) + 1:=by omega
  rw [this,Nat.pow_succ,Nat.mul_div_cancel _ h0]
 ·rw [Nat.sub_zero,Nat.div_eq_of_lt (by omega)]
 ·rw [Nat.sub_zero,Nat.div_eq_of_lt (by omega),Nat.div_eq_of_lt (by omega)]
 ·have:t - k=(t - (k + 1)) + 1:=by omega
  rw [this,Nat.pow_succ,Nat.div_div_eq_div_mul,Nat.div_div_eq_div_mul]
  exact ⟨rfl,rfl⟩
 ·have hT0:0 < h ^ (t - k):=Nat.pow_pos h0
  generalize h ^ (t - k)=T at *
  have l1:r / T≤(r + HH - 1) / T:=Nat.div_le_div_right (by omega)
  refine ⟨l1,?_⟩
  have l2:(r + HH - 1) / T≤r / T + HH:=by
   have e:r=T * (r / T) + r % T:=(Nat.div_add_mod r T).symm
   have hm:=Nat.mod_lt r hT0
   have:(r + HH - 1) / T < r / T + HH + 1:=by
    rw [Nat.div_lt_iff_lt_mul hT0]
    have e2:(r / T + HH + 1) * T=T * (r / T) + (HH + 1) * T:=by rw [Nat.add_assoc,Nat.add_mul,Nat.mul_comm T]
    have e3:(HH + 1) * T=HH * T + T:=Nat.succ_mul HH T
    have e4:HH≤HH * T:=Nat.le_mul_of_pos_right HH hT0
    omega
   omega
  omega
open L2 DV
open PySem (sizeLine)
theorem zat {h t:Nat} (h1:h≤4) (ht:t≤60):h ^ t < 2 ^ 200:=by
 have a:h ^ t≤4 ^ t:=Nat.pow_le_pow_left h1 t
 have b:(4:Nat) ^ t≤4 ^ 60:=Nat.pow_le_pow_right (by decide) ht
 have c:(4:Nat) ^ 60 < 2 ^ 200:=by decide +kernel
 omega
theorem z9Z {h F a:Nat} (h0:0 < h):(F + a) / h=F / h + (F % h + a) / h∧(F + a) % h=(F % h + a) % h:=by
 have e:F + a=h * (F / h) + (F % h + a):=by rw [← Nat.add_assoc,Nat.div_add_mod]
 constructor
 ·conv=>lhs; rw [e]
  rw [Nat.mul_comm,Nat.add_comm,Nat.add_mul_div_right _ _ h0,Nat.add_comm]
 ·conv=>lhs; rw [e]
  rw [Nat.mul_comm,Nat.add_comm,Nat.add_mul_mod_self_right]
theorem fit {h F L:Nat} (h0:0 < h) (hFL:F≤L):F % h + (L - F + 1)≤(L / h - F / h + 1) * h:=by
 have e1:=Nat.div_add_mod F h
 have e2:=Nat.div_add_mod L h
 have e3:=Nat.mod_lt L h0
 have e4:F / h≤L / h:=Nat.div_le_div_right hFL
 have e5:(L / h - F / h + 1) * h + h * (F / h)=h * (L / h) + h:=by
  have:L / h - F / h + 1 + F / h=L / h + 1:=by omega
  rw [Nat.mul_comm h (F / h),← Nat.add_mul,this,Nat.add_mul,Nat.one_mul,Nat.mul_comm]
 omega
theorem z9D {h w t n r c HH WW:Nat} {bs:List (Nat×List Tx)} (R:Rul h w bs) (hn:n ∈ bs.map (·.1)) (ht:t≤60) (hH:0 < HH) (hW:0 < WW) (hr:r + HH≤h ^ t) (hc:c + WW≤w ^ t) (hT:HH≤64) (wT:WW≤64) :
  z2J [.pure (ruD h w bs),.pure (.str [n]),.pure (.int t),.pure (.tup [.int r,.int c,.int HH,.int WW])]=some (.pure (flD (grid (fun i j=>far h w bs n t (r + i) (c + j)) HH WW)),[.pure (ruD h w bs),.pure (.str [n]),.pure (.int t),.pure (.tup [.int r,.int c,.int HH,.int WW])]):=by
 have h1:=R.h1
 have w1:=R.w1
 have h0:=R.h0
 have w0:=R.w0
 obtain ⟨p1,p2,p3,p4,p5,p6⟩:=z7G h0 hH hr (zat h1 ht)
 obtain ⟨q1,q2,q3,q4,q5,q6⟩:=z7G w0 hW hc (zat w1 ht)
 let FT:=fun k=>r / h ^ (t - k)
 let SL:=fun k=>c / w ^ (t - k)
 let LT:=fun k=>(r + HH - 1) / h ^ (t - k)
 let MT:=fun k=>(c + WW - 1) / w ^ (t - k)
 let RT:=fun k=>LT k - FT k + 1
 let CT:=fun k=>MT k - SL k + 1
 let KP:=fun k=>grid (fun i j=>far h w bs n k (FT k + i) (SL k + j)) (RT k) (CT k)
 have key:=z9F z0z z0X z18 (ruD h w bs) _ (dcD bs) KP (fun k=>lay h bs (KP k)) h w t n r c HH WW h0 h1 w0 w1 ht hH hW (fun k=>h ^ k) (fun k=>w ^ k) FT SL LT MT RT CT (fun k=>FT (k + 1) % h) (fun k=>SL (k + 1) % w) p1 p2 q1 q2 (fun k hk=>rfl) (fun k hk=>rfl) (fun k hk=>rfl) (fun k hk=>rfl)
  (fun k hk=>by have:=(p6 (k + 1) (by omega)).1; show ((LT (k + 1):Nat):Int) - ((FT (k + 1):Nat):Int) + 1=((LT (k + 1) - FT (k + 1) + 1:Nat):Int); have h':FT (k + 1)≤LT (k + 1):=this; omega)
  (fun k hk=>by have:=(q6 (k + 1) (by omega)).1; show ((MT (k + 1):Nat):Int) - ((SL (k + 1):Nat):Int) + 1=((MT (k + 1) - SL (k + 1) + 1:Nat):Int); have h':SL (k + 1)≤MT (k + 1):=this; omega)
  (fun k hk=>by
   have e:FT k=FT (k + 1) / h:=(p5 k hk).1
   have e2:=Nat.div_add_mod (FT (k + 1)) h
   rw [e]
   generalize FT (k + 1)=F at *
   rw [← Int.natCast_mul,Nat.mul_comm]
   omega)
  (fun k hk=>by
   have e:SL k=SL (k + 1) / w:=(q5 k hk).1
   have e2:=Nat.div_add_mod (SL (k + 1)) w
   rw [e]
   generalize SL (k + 1)=F at *
   rw [← Int.natCast_mul,Nat.mul_comm]
   omega)
  p3 q3 (by
   have a1:RT 0=1:=p4
   have a2:CT 0=1:=q4
   show grid _ (RT 0) (CT 0)=_
   rw [a1,a2]
   simp [grid,far]) (z4k h w bs).1 (z4k h w bs).2.1 (z4k h w bs).2.2 (z7x R) (z58 h t (by omega) (by omega)) (z58 w t (by omega) (by omega))
  (fun k hk=>zc7 R (z7p (RT k) (CT k) fun i j=>z4s R hn k _ _) (by have:=(p6 k (by omega)).2; show LT k - FT k + 1≤1000; have h':LT k - FT k + 1≤HH + 1:=this; omega) (by have:=(q6 k (by omega)).2; show MT k - SL k + 1≤1000; have h':MT k - SL k + 1≤WW + 1:=this; omega))
  (fun k hk=>by
   have e1:FT k=FT (k + 1) / h:=(p5 k hk).1
   have e2:LT k=LT (k + 1) / h:=(p5 k hk).2
   have e3:SL k=SL (k + 1) / w:=(q5 k hk).1
   have e4:MT k=MT (k + 1) / w:=(q5 k hk).2
   have l1:FT (k + 1)≤LT (k + 1):=(p6 (k + 1) (by omega)).1
   have l2:SL (k + 1)≤MT (k + 1):=(q6 (k + 1) (by omega)).1
   have l3:LT k - FT k + 1≤HH + 1:=(p6 k (by omega)).2
   have l4:MT k - SL k + 1≤WW + 1:=(q6 k (by omega)).2
   have f1:FT (k + 1) % h + RT (k + 1)≤RT k * h:=by
    have:=fit h0 l1
    rw [← e1,← e2] at this
    exact this
   have f2:SL (k + 1) % w + CT (k + 1)≤CT k * w:=by
    have:=fit w0 l2
    rw [← e3,← e4] at this
    exact this
   have b1:RT k * h≤1000 * 4:=Nat.mul_le_mul (by show LT k - FT k + 1≤1000; omega) h1
   have b2:CT k * w≤1000 * 4:=Nat.mul_le_mul (by show MT k - SL k + 1≤1000; omega) w1
   have hlay:=z7l R (fun i j=>far h w bs n k (FT k + i) (SL k + j)) (RT k) (CT k) (fun i j=>z4s R hn k _ _)
   have hcut:=z8A (fun a b=>nt bs (far h w bs n k (FT k + a / h) (SL k + b / w)) (a % h) (b % w)) (A:=RT k * h) (C:=CT k * w) (r:=FT (k + 1) % h) (c:=SL (k + 1) % w) (k:=RT (k + 1)) (m:=CT (k + 1)) (by omega) (by omega) f1 f2
   have hres:grid (fun i j=>nt bs (far h w bs n k (FT k + (FT (k + 1) % h + i) / h) (SL k + (SL (k + 1) % w + j) / w)) ((FT (k + 1) % h + i) % h) ((SL (k + 1) % w + j) % w)) (RT (k + 1)) (CT (k + 1))=KP (k + 1):=by
    refine z6L fun i _ j _=>?_
    have s1:=z9Z (F:=FT (k + 1)) (a:=i) h0
    have s2:=z9Z (F:=SL (k + 1)) (a:=j) w0
    show _=far h w bs n (k + 1) (FT (k + 1) + i) (SL (k + 1) + j)
    rw [far,s1.1,s1.2,s2.1,s2.2,← e1,← e3]
   rw [hres,← hlay] at hcut
   exact hcut)
 have z1:FT t=r:=by show r / h ^ (t - t)=r; rw [Nat.sub_self,Nat.pow_zero,Nat.div_one]
 have z2:SL t=c:=by show c / w ^ (t - t)=c; rw [Nat.sub_self,Nat.pow_zero,Nat.div_one]
 have z3:RT t=HH:=by show (r + HH - 1) / h ^ (t - t) - r / h ^ (t - t) + 1=HH; rw [Nat.sub_self,Nat.pow_zero,Nat.div_one,Nat.div_one]; omega
 have z4:CT t=WW:=by show (c + WW - 1) / w ^ (t - t) - c / w ^ (t - t) + 1=WW; rw [Nat.sub_self,Nat.pow_zero,Nat.div_one,Nat.div_one]; omega
 have zk:KP t=grid (fun i j=>far h w bs n t (r + i) (c + j)) HH WW:=by
  show grid (fun i j=>far h w bs n t (FT t + i) (SL t + j)) (RT t) (CT t)=_
  rw [z1,z2,z3,z4]
 rw [zk] at key
 rw [z2J,z5f]
 exact key
theorem zaq (GT GW GP GG GL:DF) (ru ff:D) (n t r c H W:Nat) (h w P Q:Int) (hP:(r:Int) + H≤P) (hQ:(c:Int) + W≤Q) (x0:pIx ru (.int 0)=some (.pure (.int h))) (x1:pIx ru (.int 1)=some (.pure (.int w)))
  (gt:GT [.pure ru,.pure (.str [n])]=some (.pure .non,[.pure ru,.pure (.str [n])])) (gw:GW [.pure (.int t)]=some (.pure .non,[.pure (.int t)])) (gp:GP [.pure ru,.pure (.int t),.pure (.int r),.pure (.int c)]=some (.pure .non,[.pure ru,.pure (.int t),.pure (.int r),.pure (.int c)]))
  (g1:GG [.pure (.int 1),.pure (.int h),.pure (.int t)]=some (.pure (.int P),[.pure (.int 1),.pure (.int h),.pure (.int t)])) (g2:GG [.pure (.int 1),.pure (.int w),.pure (.int t)]=some (.pure (.int Q),[.pure (.int 1),.pure (.int w),.pure (.int t)]))
  (gl:GL [.pure ru,.pure (.str [n]),.pure (.int t),.pure (.tup [.int r,.int c,.int H,.int W])]=some (.pure ff,[.pure ru,.pure (.str [n]),.pure (.int t),.pure (.tup [.int r,.int c,.int H,.int W])])) :
  gOf [] 9 (dSeq (z6s (z05 GT [.val (eVar 0),.val (eVar 1)])) (dSeq (z6s (z05 GW [.val (eVar 2)])) (dSeq (z6s (z05 GP [.val (eVar 0),.val (eVar 2),.val (eVar 3),.val (eVar 4)])) (dSeq (dAsg (z05 GG [.val (eD (.int 1)),.val (eOpF pIx 0 (bOf (eD (.int 0)))),.val (eVar 2)]) (gNm [] 7)) (dSeq (dAsg (z05 GG [.val (eD (.int 1)),.val (eOpF pIx 0 (bOf (eD (.int 1)))),.val (eVar 2)]) (gNm [] 8)) (dSeq (dIf (dOr (dTr (eOp pGt (eOpF pAdd 3 (bVar 5)) (bVar 7))) (dTr (eOp pGt (eOpF pAdd 4 (bVar 6)) (bVar 8)))) z4V z0N) (dRet (z05 GL [.val (eVar 0),.val (eVar 1),.val (eVar 2),.val (eTup (z09 (eVar 3) (z09 (eVar 4) (z09 (eVar 5) (z09 (eVar 6) aNil)))))])))))))) [.pure ru,.pure (.str [n]),.pure (.int t),.pure (.int r),.pure (.int c),.pure (.int H),.pure (.int W)]=some (.pure ff,[.pure ru,.pure (.str [n]),.pure (.int t),.pure (.int r),.pure (.int c),.pure (.int H),.pure (.int W)]):=by
 have c1:¬ P < (r:Int) + H:=by omega
 have c2:¬ Q < (c:Int) + W:=by omega
 have a1:pAdd (.int r) (.int H)=some (.pure (.int ((r:Int) + H))):=rfl
 have a2:pAdd (.int c) (.int W)=some (.pure (.int ((c:Int) + W))):=rfl
 have b1:pGt (.int ((r:Int) + H)) (.int P)=some (.pure (.bl false)):=by rw [gt_int,decide_eq_false c1]
 have b2:pGt (.int ((c:Int) + W)) (.int Q)=some (.pure (.bl false)):=by rw [gt_int,decide_eq_false c2]
 rw [z0T]
 generalize D.int ((r:Int) + H)=y1 at *
 generalize D.int ((c:Int) + W)=y2 at *
 simp [ioOk,z0h,dAsg,z05,ios,ndup,z0x,evX,eVar,mkA,gt,gw,gp,putA,eOpF,eOpN,bVar,x0,x1,g1,g2,dTr,a1,a2,b1,b2,gl,z0y,z0f]
theorem zam {h w t n r c HH WW:Nat} {bs:List (Nat×List Tx)} (R:Rul h w bs) (hn:n ∈ bs.map (·.1)) (ht:t≤60) (hH:0 < HH) (hW:0 < WW) (hr:r + HH≤h ^ t) (hc:c + WW≤w ^ t) (hT:HH≤64) (wT:WW≤64):z2T [.pure (ruD h w bs),.pure (.str [n]),.pure (.int t),.pure (.int r),.pure (.int c),.pure (.int HH),.pure (.int WW)]=some (.pure (flD (grid (fun i j=>far h w bs n t (r + i) (c + j)) HH WW)),[.pure (ruD h w bs),.pure (.str [n]),.pure (.int t),.pure (.int r),.pure (.int c),.pure (.int HH),.pure (.int WW)]):=by
 have h1:=R.h1
 have w1:=R.w1
 rw [z2T,z6e]
 exact zaq _ _ _ _ _ (ruD h w bs) _ n t r c HH WW h w ((h ^ t:Nat):Int) ((w ^ t:Nat):Int) (by omega) (by omega) (z4k h w bs).1 (z4k h w bs).2.1 (z72 R hn) (z57 t ht) (z6j R ht (by omega) (by omega)) (z58 h t (by omega) (by omega)) (z58 w t (by omega) (by omega)) (z9D R hn ht hH hW hr hc hT wT)
theorem z9w (x y:Tx) (h:x.length + y.length≤100000):pAdd (.str x) (.str y)=some (.pure (.str (x ++ y))):=by
 have hz:sizeLine=16777216:=rfl
 simp only [pAdd]
 rw [if_pos (by omega)]
theorem z9k (bs:List (Nat×List Tx)) (l:Nat):∀ (row:Tx) (s:Tx),row.foldl (fun s n=>s ++ (blk bs n).getD l []) s=s ++ lay1 bs l row
 | [],s=>by simp [lay1]
 | n :: r,s=>by rw [List.foldl_cons,z9k bs l r]; simp [lay1]
theorem z8C {h w:Nat} {bs:List (Nat×List Tx)} (R:Rul h w bs) (ru:D) (x0:pIx ru (.int 0)=some (.pure (.int h))) (x2:pIx ru (.int 2)=some (.pure (.tup (bs.map blD)))) {A C:Nat} {fl:List Tx} (F:Fl2 bs A C fl) (hA:A≤1000) (hC:C≤1000) :
  gOf [] 8 (B7_) [.pure ru,.pure (flD fl)]=some (.pure (flD (lay h bs fl)),[.pure ru,.pure (flD fl)]):=by
 have h1:=R.h1
 have w1:=R.w1
 have hdc:=z7x R
 -- one new row,sign by sign
 have signs:∀ (acc:List Tx) (row:Tx) (l:Nat) (o7:Option S),row ∈ fl→l < h→∃ o7',forL (gNm [] 7) (dAsg (eOpF pAdd 6 (bOf (eOp pIx (eOpF pIxX 2 (bVar 7)) (bVar 5)))) (gNm [] 6)) (row.map fun n=>.str [n]) [some (.pure ru),some (.pure (flD fl)),some (.own (dcD bs)),some (.own (.lst (acc.map .str))),some (.pure (.str row)),some (.pure (.int l)),some (.pure (.str [])),o7]
   = .ok .next [some (.pure ru),some (.pure (flD fl)),some (.own (dcD bs)),some (.own (.lst (acc.map .str))),some (.pure (.str row)),some (.pure (.int l)),some (.pure (.str (lay1 bs l row))),o7']:=fun acc row l o7 hrow hl=>by
  obtain ⟨j',e,_⟩:=z6M (g:=gNm [] 7) (b:=(dAsg (eOpF pAdd 6 (bOf (eOp pIx (eOpF pIxX 2 (bVar 7)) (bVar 5)))) (gNm [] 6))) (fun n:Nat=>D.str [n]) (fun (s:Tx) (j:Option S)=>[some (.pure ru),some (.pure (flD fl)),some (.own (dcD bs)),some (.own (.lst (acc.map .str))),some (.pure (.str row)),some (.pure (.int l)),some (.pure (.str s)),j]) (fun s n=>s ++ (blk bs n).getD l []) (fun k s=>s.length≤k * 4) (fun n=>n ∈ bs.map (·.1)) 1000 (fun k s j n hk hp hq=>by
   have y1:=zeL hq
   obtain ⟨z1,_,y2⟩:=z7R R hq hl
   have ha:=z9w s ((blk bs n).getD l []) (by omega)
   refine ⟨by rw [List.length_append,z1,Nat.succ_mul]; omega,_,some (.pure (.str [n])),rfl,?_⟩
   generalize s ++ (blk bs n).getD l []=ns at *
   generalize D.str ((blk bs n).getD l [])=dr at *
   generalize flD (blk bs n)=db at *
   generalize flD fl=df at *
   generalize dcD bs=dd at *
   generalize acc.map D.str=ad at *
   simp [dAsg,eOpF,eOpN,bVar,y1,y2,ha]) row 0 [] o7 (by rw [Nat.zero_add,F.cols row hrow]; exact hC) (by simp) (F.tl row hrow)
  rw [z9k,List.nil_append] at e
  exact ⟨j',e⟩
 have inner:∀ (acc:List Tx) (row:Tx) (o5 o6 o7:Option S),row ∈ fl→acc.length≤100000→∃ o5' o6' o7',forL (gNm [] 5) (dSeq (dAsg (eD (.str [])) (gNm [] 6)) (dSeq (dFor (iSq (eVar 4)) (gNm [] 7) (dAsg (eOpF pAdd 6 (bOf (eOp pIx (eOpF pIxX 2 (bVar 7)) (bVar 5)))) (gNm [] 6))) (z0W 3 (eVar 6)))) (z1g 0 h) [some (.pure ru),some (.pure (flD fl)),some (.own (dcD bs)),some (.own (.lst (acc.map .str))),some (.pure (.str row)),o5,o6,o7]
   = .ok .next [some (.pure ru),some (.pure (flD fl)),some (.own (dcD bs)),some (.own (.lst ((acc ++ layR h bs row).map .str))),some (.pure (.str row)),o5',o6',o7']:=fun acc row o5 o6 o7 hrow hacc=>by
  obtain ⟨δ',e,o5',o6',o7',rfl⟩:=z2d (g:=gNm [] 5) (b:=(dSeq (dAsg (eD (.str [])) (gNm [] 6)) (dSeq (dFor (iSq (eVar 4)) (gNm [] 7) (dAsg (eOpF pAdd 6 (bOf (eOp pIx (eOpF pIxX 2 (bVar 7)) (bVar 5)))) (gNm [] 6))) (z0W 3 (eVar 6))))) (fun k δ=>∃ o5 o6 o7,δ=[some (.pure ru),some (.pure (flD fl)),some (.own (dcD bs)),some (.own (.lst ((acc ++ layR k bs row).map .str))),some (.pure (.str row)),o5,o6,o7]) (z1g 0 h) 0 [some (.pure ru),some (.pure (flD fl)),some (.own (dcD bs)),some (.own (.lst (acc.map .str))),some (.pure (.str row)),o5,o6,o7] ⟨o5,o6,o7,by simp [layR]⟩ (fun i d δ hd ⟨o5,o6,o7,e⟩=>by
   subst e
   obtain ⟨hi,rfl⟩:=z1H hd
   rw [Nat.zero_add]
   obtain ⟨o7',hs⟩:=signs (acc ++ layR i bs row) row i o7 hrow hi
   have hz:((acc ++ layR i bs row).map D.str).length < sizeLine:=by
    rw [z1L]
    simp [layR]
    omega
   have hE:(acc ++ layR (i + 1) bs row).map D.str=(acc ++ layR i bs row).map D.str ++ [.str (lay1 bs i row)]:=by
    simp [layR,List.range_succ]
   refine ⟨_,[some (.pure ru),some (.pure (flD fl)),some (.own (dcD bs)),some (.own (.lst ((acc ++ layR (i + 1) bs row).map .str))),some (.pure (.str row)),some (.pure (.int i)),some (.pure (.str (lay1 bs i row))),o7'],rfl,?_,_,_,_,rfl⟩
   rw [hE]
   generalize lay1 bs i row=nr at *
   generalize (acc ++ layR i bs row).map D.str=AD at *
   generalize flD fl=df at *
   generalize dcD bs=dd at *
   simp [dAsg,z3r,eVar]
   rw [hs]
   simp [z0W,z3K,eVar,putL,hz])
  rw [Nat.zero_add,z2R] at e
  exact ⟨o5',o6',o7',e⟩
 have outer:∃ o4 o5 o6 o7,forL (gNm [] 4) (dFor (z0S (eOpF pIx 0 (bOf (eD (.int 0))))) (gNm [] 5) (dSeq (dAsg (eD (.str [])) (gNm [] 6)) (dSeq (dFor (iSq (eVar 4)) (gNm [] 7) (dAsg (eOpF pAdd 6 (bOf (eOp pIx (eOpF pIxX 2 (bVar 7)) (bVar 5)))) (gNm [] 6))) (z0W 3 (eVar 6))))) (fl.map .str) [some (.pure ru),some (.pure (flD fl)),some (.own (dcD bs)),some (.own (.lst [])),none,none,none,none]
   = .ok .next [some (.pure ru),some (.pure (flD fl)),some (.own (dcD bs)),some (.own (.lst ((lay h bs fl).map .str))),o4,o5,o6,o7]:=by
  obtain ⟨δ',e,o4,o5,o6,o7,rfl⟩:=z2d (g:=gNm [] 4) (b:=(dFor (z0S (eOpF pIx 0 (bOf (eD (.int 0))))) (gNm [] 5) (dSeq (dAsg (eD (.str [])) (gNm [] 6)) (dSeq (dFor (iSq (eVar 4)) (gNm [] 7) (dAsg (eOpF pAdd 6 (bOf (eOp pIx (eOpF pIxX 2 (bVar 7)) (bVar 5)))) (gNm [] 6))) (z0W 3 (eVar 6)))))) (fun k δ=>∃ o4 o5 o6 o7,δ=[some (.pure ru),some (.pure (flD fl)),some (.own (dcD bs)),some (.own (.lst ((lay h bs (fl.take k)).map .str))),o4,o5,o6,o7]) (fl.map D.str) 0 [some (.pure ru),some (.pure (flD fl)),some (.own (dcD bs)),some (.own (.lst [])),none,none,none,none] ⟨none,none,none,none,by simp [lay]⟩ (fun i d δ hd ⟨o4,o5,o6,o7,e⟩=>by
   subst e
   rw [List.getElem?_map,Option.map_eq_some_iff] at hd
   obtain ⟨row,hrow,rfl⟩:=hd
   rw [Nat.zero_add]
   have hi:i < fl.length:=(List.getElem?_eq_some_iff.mp hrow).1
   have hlen:(lay h bs (fl.take i)).length≤100000:=by
    have F':Fl2 bs (fl.take i).length C (fl.take i):=⟨rfl,fun r hr=>F.cols r (List.mem_of_mem_take hr),fun r hr=>F.tl r (List.mem_of_mem_take hr)⟩
    have:=(z9e R F').rows
    rw [this]
    have h2:(fl.take i).length≤1000:=by have:=F.rows; rw [List.length_take]; omega
    have:(fl.take i).length * h≤1000 * 4:=Nat.mul_le_mul h2 h1
    omega
   obtain ⟨o5',o6',o7',e⟩:=inner (lay h bs (fl.take i)) row o5 o6 o7 (List.mem_of_getElem? hrow) hlen
   have hE:lay h bs (fl.take (i + 1))=lay h bs (fl.take i) ++ layR h bs row:=by
    rw [List.take_add_one,hrow]
    simp [lay]
   refine ⟨_,[some (.pure ru),some (.pure (flD fl)),some (.own (dcD bs)),some (.own (.lst ((lay h bs (fl.take (i + 1))).map .str))),some (.pure (.str row)),o5',o6',o7'],rfl,?_,_,_,_,_,rfl⟩
   rw [hE]
   generalize (lay h bs (fl.take i) ++ layR h bs row).map D.str=AD at *
   generalize (lay h bs (fl.take i)).map D.str=AE at *
   generalize flD fl=df at *
   generalize dcD bs=dd at *
   simp only [zb0,z8j,eOpF,eOpN,zcj,ev_eD,bVar,zeT,zeW,x0,List.set_cons_succ,List.set_cons_zero,List.getElem?_cons_succ,List.getElem?_cons_zero,z1Y,z4d h (by omega:h≤1000000)]
   exact e)
  refine ⟨o4,o5,o6,o7,?_⟩
  rw [e]
  simp
 obtain ⟨o4,o5,o6,o7,e⟩:=outer
 rw [z0T]
 clear signs inner
 generalize hAD:(lay h bs fl).map D.str=AD at *
 generalize dcD bs=dd at *
 generalize D.tup (bs.map blD)=bl at *
 simp [ioOk,z0h,dAsg,eOpF,eOpN,bVar,x2,hdc,z3r,eVar]
 rw [e]
 simp [bVar,z1Q,z0y,z0f]
 exact hAD.symm
theorem z5R {h w:Nat} {bs:List (Nat×List Tx)} (R:Rul h w bs) {A C:Nat} {fl:List Tx} (F:Fl2 bs A C fl) (hA:A≤1000) (hC:C≤1000):z0C [.pure (ruD h w bs),.pure (flD fl)]=some (.pure (flD (lay h bs fl)),[.pure (ruD h w bs),.pure (flD fl)]):=by
 rw [z0C,z3i]
 exact z8C R _ (z4k h w bs).1 (z4k h w bs).2.2 F hA hC
open L2 DV
open PySem (sizeLine)
def letN (n:Nat):Bool:=decide (97≤n) && decide (n≤122)
def lg (m:Nat):D→Bool
 | .str x=>decide (1≤x.length) && decide (x.length≤m) && x.all letN
 | _=>false
def z2u (w:Nat):D→Bool
 | .str x=>lg 64 (.str x) && x.length == w
 | _=>false
def len0:List D→Nat
 | .str x :: _=>x.length
 | _=>0
def isFl:D→Bool
 | .tup ds=>decide (1≤ds.length) && decide (ds.length≤64) && ds.all (z2u (len0 ds))
 | _=>false
def Sm:D→Prop
 | .str x=>x.length≤1000
 | _=>True
def SmT:D→Prop
 | .tup ds=>ds.length≤1000∧∀ d ∈ ds,Sm d
 | _=>True
theorem le_a (n:Nat):pLe (.str [97]) (.str [n])=some (.pure (.bl (decide (97≤n)))):=by
 unfold pLe pCmp
 simp only [lt1]
 congr 3
 by_cases h:97≤n <;> simp [h] <;> omega
theorem le_z (n:Nat):pLe (.str [n]) (.str [122])=some (.pure (.bl (decide (n≤122)))):=by
 unfold pLe pCmp
 simp only [lt1]
 congr 3
 by_cases h:n≤122 <;> simp [h] <;> omega
theorem z2K (x:Tx) (h:x.length≤1000):pLen (.str x)=some (.pure (.int x.length)):=by
 unfold pLen
 have:sizeLine=16777216:=rfl
 simp only
 rw [if_pos (by omega)]
theorem z6g (xs:List Nat) (p:Nat→Bool):pAll (.lst (xs.map fun n=>.bl (p n)))=some (.pure (.bl (xs.all p))):=by
 have e:(xs.map fun n=>D.bl (p n))=(xs.map p).map D.bl:=by simp
 unfold pAll
 simp only [e,z7u,Option.map_some]
 simp [List.all_map,Function.comp_def]
theorem zak (d:D) (m:Nat) (hd:Sm d):z0Q [.pure d,.pure (.int m)]=some (.pure (.bl (lg m d)),[.pure d,.pure (.int m)]):=by
 unfold z0Q gOf z3t runD
 cases d with
 | str x =>
  have hx:x.length≤1000:=hd
  by_cases h1:1≤x.length
  ·by_cases h2:x.length≤m
   ·have e:=z1D (cs:=[2]) (g:=gNm [] 2) (t:=dYes) (el:=z3A pLe pLe (eD (.str [97])) (eVar 2) (bOf (eD (.str [122])))) (fun n:Nat=>D.str [n]) (fun n=>.bl (letN n)) [some (.pure (.str x)),some (.pure (.int m)),none] x [] (by rw [z1L]; simp; omega) (fun n hn=>by
     refine ⟨_,_,.pure (.bl (letN n)),[some (.pure (.str x)),some (.pure (.int m)),some (.pure (.str [n]))],rfl,rfl,?_,rfl,rfl⟩
     unfold letN
     by_cases ha:97≤n
     ·simp [z1w,eVar,le_a,le_z,ha]
     ·simp [z1w,eVar,le_a,ha])
    have ea:=z6g x letN
    simp only [List.nil_append] at e
    have c1:(1:Int)≤(x.length:Int):=by omega
    simp [ioOk,z0h,dTr,eIsi,isTy,bVar,eVar,z1w,z2K x hx,le_int,h2,c1,z3r,z0x,clrD]
    rw [e]
    simp [ea,z20,z0y,z0f,lg,h1,h2]
   ·have c1:(1:Int)≤(x.length:Int):=by omega
    simp [ioOk,z0h,dTr,eIsi,isTy,bVar,z1w,z2K x hx,le_int,h2,c1,z0y,z0f,lg]
  ·have c1:¬ (1:Int)≤(x.length:Int):=by omega
   simp [ioOk,z0h,dTr,eIsi,isTy,bVar,z1w,z2K x hx,le_int,c1,z0y,z0f,lg,h1]
 | _=>simp [ioOk,z0h,dTr,eIsi,isTy,bVar,z0y,z0f,lg]
theorem z0O (ds:List D):pLen (.tup ds)=some (.pure (.int ds.length)):=rfl
theorem ix0 (ds:List D) (d:D) (h:ds[0]? = some d):pIx (.tup ds) (.int 0)=some (.pure d):=by simp [pIx,z2f,h]
theorem z7U (d:D) (hd:SmT d):z1I [.pure d]=some (.pure (.bl (isFl d)),[.pure d]):=by
 unfold z1I gOf z42 runD
 cases d with
 | tup ds =>
  obtain ⟨hl,hs⟩:=hd
  by_cases h1:1≤ds.length
  ·have c1:(1:Int)≤(ds.length:Int):=by omega
   by_cases h2:ds.length≤64
   ·have c2:(ds.length:Int)≤64:=by omega
    obtain ⟨d0,h0⟩:∃ d0,ds[0]? = some d0:=⟨ds[0],by simp [h1]⟩
    have hw:∀ x,d0 = .str x→len0 ds=x.length:=fun x e=>by
     cases ds with
     | nil=>simp at h0
     | cons a r=>simp at h0; subst h0; subst e; rfl
    have F:=z8h (g:=gNm [] 1) (b:=(dIf (dOr (dNot (dTr (z05 z0Q [.val (eVar 1),.val (eD (.int 64))]))) (dTr (eOp pNe (eC1 pLen (bVar 1)) (bOf (eC1 pLen (bOf (eOpF pIx 0 (bOf (eD (.int 0)))))))))) (dRet (eD (.bl false))) z0N))
     (fun n δ=>(∃ a,δ=[some (.pure (.tup ds)),a])∧(0 < n→∃ x,d0 = .str x∧x.length≤1000)) (fun d=>!z2u (len0 ds) d) (.pure (.bl false)) (fun _=>True) ds 0 [some (.pure (.tup ds)),none] ⟨⟨_,rfl⟩,fun h=>absurd h (by omega)⟩ (fun i d δ hi ⟨⟨a,e⟩,hx⟩=>by
      subst e
      have hm:Sm d:=hs d (List.mem_of_getElem? hi)
      have el:=zak d 64 hm
      have el':z0Q [.pure d,.pure (.int 64)]=some (.pure (.bl (lg 64 d)),[.pure d,.pure (.int 64)]):=el
      refine ⟨[some (.pure (.tup ds)),some (.pure d)],rfl,?_⟩
      cases hg:lg 64 d with
      | false =>
       refine .inl ⟨?_,[some (.pure (.tup ds)),some (.pure d)],?_,trivial⟩
       ·cases d <;> simp [z2u] at hg ⊢
        simp [hg]
       ·rw [hg] at el'
        simp [dTr,z05,ios,ndup,evX,eVar,mkA,el',putA]
      | true =>
       obtain ⟨x,rfl⟩:∃ x,d = .str x:=by cases d <;> simp [lg] at hg <;> exact ⟨_,rfl⟩
       have hx1:x.length≤1000:=hm
       obtain ⟨x0,ex0,hx0⟩:∃ x,d0 = .str x∧x.length≤1000:=by
        cases i with
        | zero=>rw [h0] at hi; cases hi; exact ⟨x,rfl,hx1⟩
        | succ i=>exact hx (by omega)
       have ei:=ix0 ds d0 h0
       rw [ex0] at ei
       rw [hg] at el'
       have hw':=hw x0 ex0
       by_cases hc:x.length=x0.length
       ·refine .inr ⟨by simp [z2u,hg,hw',hc],[some (.pure (.tup ds)),some (.pure (.str x))],?_,⟨⟨_,rfl⟩,fun _=>⟨x0,ex0,hx0⟩⟩⟩
        simp [dTr,z05,ios,ndup,evX,eVar,mkA,el',putA,bVar,z2K x hx1,eOpF,eOpN,ei,z2K x0 hx0,z60,hc]
       ·refine .inl ⟨by simp [z2u,hg,hw',hc],[some (.pure (.tup ds)),some (.pure (.str x))],?_,trivial⟩
        have hc':¬ (x.length:Int)=(x0.length:Int):=by omega
        simp [dTr,z05,ios,ndup,evX,eVar,mkA,el',putA,bVar,z2K x hx1,eOpF,eOpN,ei,z2K x0 hx0,z60,hc'])
    have hall:ds.any (fun d=>!z2u (len0 ds) d) = !ds.all (z2u (len0 ds)):=by rw [List.any_eq_not_all_not]; simp
    rcases F with ⟨ha,δ',e,_⟩ | ⟨ha,δ',e,⟨a,rfl⟩,_⟩
    ·have:ds.all (z2u (len0 ds))=false:=by rw [hall] at ha; simpa using ha
     simp [ioOk,z0h,dTr,eIsi,isTy,bVar,z1w,z0O,le_int,c1,c2,z3r,eVar]
     rw [e]
     simp [z0y,z0f,isFl,h1,h2,this]
    ·have:ds.all (z2u (len0 ds))=true:=by rw [hall] at ha; simpa using ha
     simp [ioOk,z0h,dTr,eIsi,isTy,bVar,z1w,z0O,le_int,c1,c2,z3r,eVar]
     rw [e]
     simp [z0y,z0f,isFl,h1,h2,this]
   ·have c2:¬ (ds.length:Int)≤64:=by omega
    simp [ioOk,z0h,dTr,eIsi,isTy,bVar,z1w,z0O,le_int,c1,c2,z0y,z0f,isFl,h2]
  ·have c1:¬ (1:Int)≤(ds.length:Int):=by omega
   simp [ioOk,z0h,dTr,eIsi,isTy,bVar,z1w,z0O,le_int,c1,z0y,z0f,isFl,h1]
 | _=>simp [ioOk,z0h,dTr,eIsi,isTy,bVar,z0y,z0f,isFl]
theorem zc2 (ds:List D) (f:D→Bool):pAll (.lst (ds.map fun d=>.bl (f d)))=some (.pure (.bl (ds.all f))):=by
 have e:(ds.map fun d=>D.bl (f d))=(ds.map f).map D.bl:=by simp
 unfold pAll
 simp only [e,z7u,Option.map_some]
 simp [List.all_map,Function.comp_def]
def z66:D→Bool
 | .str _=>true
 | _=>false
theorem z9n {w:Nat}:∀ {ds:List D},ds.all (z2u w)=true→∃ fl:List Tx,ds=fl.map .str∧∀ r ∈ fl,r.length≤64
 | [],_=>⟨[],rfl,by simp⟩
 | d :: ds,h=>by
  simp only [List.all_cons,Bool.and_eq_true] at h
  obtain ⟨fl,rfl,hf⟩:=z9n h.2
  cases d <;> simp [z2u] at h
  rename_i x
  refine ⟨x :: fl,rfl,fun r hr=>?_⟩
  rcases List.mem_cons.mp hr with rfl | hr
  ·have:=h.1.1
   simp [lg] at this
   exact this.1.2
  ·exact hf r hr
theorem za1 {i:Nat} {ds:List D} {δ:Dl} (h:δ[i]? = some (some (.pure (.tup ds)))):iSq (eVar i) δ = .ok ds δ:=by simp [z3r,eVar,h]
theorem zcA {i:Nat} {d:D} {x:Tx} {δ:Dl} (h:δ[i]? = some (some (.pure d))) (hj:z2t [] d=some (.pure (.str x))):iSq (eC1 (z2t []) (bVar i)) δ = .ok (x.map fun n=>.str [n]) δ:=by simp [z3r,bVar,h,hj]
theorem tup3 (ds:List D) (h:ds.length=3):∃ a b c,ds=[a,b,c]:=by
 match ds,h with
 | [a,b,c],_=>exact ⟨a,b,c,rfl⟩
theorem ix30 (a b c:D):pIx (.tup [a,b,c]) (.int 0)=some (.pure a):=by simp [pIx,z2f]
theorem ix31 (a b c:D):pIx (.tup [a,b,c]) (.int 1)=some (.pure b):=by simp [pIx,z7D]
theorem ix32 (a b c:D):pIx (.tup [a,b,c]) (.int 2)=some (.pure c):=by simp [pIx,z7C]
theorem zdm (ps:List D) (hf:flat 50 (.tup ps)=true):pEq (.tup ps) (.tup [])=some (.pure (.bl ps.isEmpty)):=by
 unfold pEq
 rw [hf]
 cases ps with
 | nil=>rfl
 | cons a r=>rfl
def isI:D→Bool
 | .int _=>true
 | _=>false
theorem zai (d:D):z0M [.pure d]=some (.pure (.bl (isI d)),[.pure d]):=by
 unfold z0M gOf z43 runD
 cases d <;> simp [ioOk,z0h,eAnd,eNot,eIsi,isTy,bVar,z0y,z0f,isI]
def wi (m:Int):D→Bool
 | .int i=>decide (0≤i) && decide (i≤m)
 | _=>false
theorem zcO (d:D):z1p [.pure d,.pure (.int 0)]=some (.pure (.bl (match d with | .int i=>decide (0≤i) | _=>false)),[.pure d,.pure (.int 0)]):=by
 rw [z1p,z0T,z3p]
 cases d <;> simp [ioOk,z0h,eAnd,eNot,eIsi,isTy,bVar,eVar,eOpF,eOpN,le_int,z0y,z0f]
theorem zah (d:D) (m:Int):z0p [.pure d,.pure (.int 0),.pure (.int m)]=some (.pure (.bl (wi m d)),[.pure d,.pure (.int 0),.pure (.int m)]):=by
 have e:=zcO d
 rw [z0p,z0T,z2L]
 cases d with
 | int i =>
  simp only at e
  by_cases h:0≤i
  ·simp [h] at e
   simp [ioOk,z0h,eAnd,z05,ios,ndup,z0x,evX,mkA,e,putA,bVar,eVar,eOpF,eOpN,le_int,z0y,z0f,wi,h]
  ·simp [h] at e
   simp [ioOk,z0h,eAnd,z05,ios,ndup,z0x,evX,mkA,e,putA,bVar,eVar,eOpF,eOpN,le_int,z0y,z0f,wi,h]
 | _ =>
  simp only at e
  simp [ioOk,z0h,eAnd,z05,ios,ndup,z0x,evX,mkA,e,putA,bVar,eVar,eOpF,eOpN,le_int,z0y,z0f,wi]
theorem zc8 (i F h:Nat) (h0:0 < h) (h1:h≤4) (hF:0 < F):gOf [] 3 (dRet (eOp pAdd (eOp pDiv (eOp pSub (eOpF pAdd 0 (bVar 1)) (bOf (eD (.int 1)))) (bVar 2)) (bOf (eD (.int 1))))) [.pure (.int i),.pure (.int F),.pure (.int h)]=some (.pure (.int (((i + F - 1) / h + 1:Nat):Int)),[.pure (.int i),.pure (.int F),.pure (.int h)]):=by
 have d1:=zdp (i + F - 1) h ((i:Int) + (F:Int) - 1) (by omega) h0 (by omega)
 have a1:pAdd (.int i) (.int F)=some (.pure (.int ((i:Int) + F))):=rfl
 have s1:pSub (.int ((i:Int) + F)) (.int 1)=some (.pure (.int ((i:Int) + F - 1))):=rfl
 have a2:pAdd (.int (((i + F - 1) / h:Nat):Int)) (.int 1)=some (.pure (.int (((i + F - 1) / h + 1:Nat):Int))):=rfl
 generalize (i + F - 1) / h=q at *
 generalize D.int ((i:Int) + F - 1)=y1 at *
 generalize D.int ((i:Int) + F)=y2 at *
 generalize D.int ((q + 1:Nat):Int)=y3 at *
 generalize D.int ((q:Nat):Int)=y4 at *
 rw [z0T]
 simp [ioOk,z0h,eOpF,eOpN,bVar,a1,s1,d1,a2,z0y,z0f]
theorem zdT (i F h:Nat) (h0:0 < h) (h1:h≤4) (hF:0 < F):z0L [.pure (.int i),.pure (.int F),.pure (.int h)]=some (.pure (.int (((i + F - 1) / h + 1:Nat):Int)),[.pure (.int i),.pure (.int F),.pure (.int h)]):=by
 rw [z0L,z3f]
 exact zc8 i F h h0 h1 hF
theorem zdR (i F h:Nat) (h0:0 < h) (h1:h≤4) (hF:0 < F):z1P [.pure (.int i),.pure (.int F),.pure (.int h)]=some (.pure (.int (((i + F - 1) / h + 1:Nat):Int)),[.pure (.int i),.pure (.int F),.pure (.int h)]):=by
 rw [z1P,z4x]
 exact zc8 i F h h0 h1 hF
theorem z7j {i F h:Nat} (hi:i < h) (hF:0 < F):(i + F - 1) / h + 1≤F:=by
 have h0:0 < h:=by omega
 have:(i + F - 1) / h < F:=by
  rw [Nat.div_lt_iff_lt_mul h0]
  obtain ⟨F',rfl⟩:∃ F',F=F' + 1:=⟨F - 1,by omega⟩
  obtain ⟨h',rfl⟩:∃ h',h=h' + 1:=⟨h - 1,by omega⟩
  have e:(F' + 1) * (h' + 1)=F' * h' + F' + h' + 1:=by rw [Nat.add_mul,Nat.mul_add]; omega
  omega
 omega
theorem z6K (l:List Tx) (h1:l.length≤1000) (h2:∀ r ∈ l,r.length≤1000):z2t [] (flD l)=some (.pure (.str l.flatten)):=by
 have hs:=z63 l 1000 h2
 have:z3n l≤16777216:=by
  have:l.length * 1000≤1000 * 1000:=Nat.mul_le_mul_right 1000 h1
  omega
 unfold z2t
 simp only [flD,z31,z3o]
 rw [if_pos (by simpa using this)]
theorem z9m (l:List Tx) (h1:l.length≤1000) (h2:∀ r ∈ l,r.length≤1000):l.flatten.length≤1000000:=by
 have hs:=z63 l 1000 h2
 have e:z3n l=l.flatten.length:=by
  clear hs h1 h2
  induction l with
  | nil=>rfl
  | cons a r ih=>simp [z3n] at ih ⊢
 rw [← e]
 have:l.length * 1000≤1000 * 1000:=Nat.mul_le_mul_right 1000 h1
 omega
theorem zeQ (bs:List (Nat×List Tx)) (n:Nat):pIn false (.str [n]) (dcD bs)=some (.pure (.bl ((bs.map (·.1)).contains n))):=by
 show ((keyD (.str [n])).map fun k=>S.pure (.bl (if false then !(valD (bs.map fun b=>((Sum.inr [b.1]:DKey),flD b.2)) k).isSome else (valD (bs.map fun b=>((Sum.inr [b.1]:DKey),flD b.2)) k).isSome)))=_
 simp only [keyD,Option.map_some,z9V]
 have:((bs.find? fun b=>decide (b.1=n)).map fun b=>flD b.2).isSome=(bs.map (·.1)).contains n:=by
  induction bs with
  | nil=>rfl
  | cons b r ih =>
   by_cases hb:b.1=n
   ·simp [List.find?_cons,hb]
   ·have hb':¬ n=b.1:=fun e=>hb e.symm
    have hbb:(n == b.1)=false:=by simpa using hb'
    simp [List.find?_cons,hb,hbb] at ih ⊢
    exact ih
 simp only [this]
 rfl
theorem zcS (bs:List (Nat×List Tx)) (l:List Tx) (h1:l.length≤1000) (h2:∀ r ∈ l,r.length≤1000) :
  gOf [] 3 (dRet (eC1 pAll (bOf (z28 [2] (iSq (eC1 (z2t []) (bVar 1))) (gNm [] 2) dYes (eOp (pIn false) (eVar 2) (bVar 0)))))) [.pure (dcD bs),.pure (flD l)]=some (.pure (.bl (l.flatten.all fun n=>(bs.map (·.1)).contains n)),[.pure (dcD bs),.pure (flD l)]):=by
 have hj:=z6K l h1 h2
 have hl:=z9m l h1 h2
 have e:=z1D (cs:=[2]) (g:=gNm [] 2) (t:=dYes) (el:=(eOp (pIn false) (eVar 2) (bVar 0))) (fun n:Nat=>D.str [n]) (fun n=>.bl ((bs.map (·.1)).contains n)) [some (.pure (dcD bs)),some (.pure (flD l)),none] l.flatten [] (by rw [z1L]; simp only [List.length_nil]; omega) (fun n hn=>by
  refine ⟨_,_,.pure (.bl ((bs.map (·.1)).contains n)),[some (.pure (dcD bs)),some (.pure (flD l)),some (.pure (.str [n]))],rfl,rfl,?_,rfl,rfl⟩
  have hi:=zeQ bs n
  generalize (bs.map (·.1)).contains n=b at *
  generalize dcD bs=dd at *
  generalize flD l=fl at *
  simp [eVar,bVar,hi])
 have ha:=z6g l.flatten fun n=>(bs.map (·.1)).contains n
 rw [List.nil_append] at e
 rw [z0T]
 generalize dcD bs=dd at *
 generalize flD l=fl at *
 generalize l.flatten.all (fun n=>(bs.map (·.1)).contains n)=rb at *
 generalize l.flatten.map (fun n=>D.bl ((bs.map (·.1)).contains n))=rl at *
 generalize l.flatten=lf at *
 simp [ioOk,z0h,z3r,bVar,hj,z0x,clrD]
 rw [e]
 simp [z20,ha,z0y,z0f]
theorem zcN (bs:List (Nat×List Tx)) (l:List Tx) (h1:l.length≤1000) (h2:∀ r ∈ l,r.length≤1000):z1q [.pure (dcD bs),.pure (flD l)]=some (.pure (.bl (l.flatten.all fun n=>(bs.map (·.1)).contains n)),[.pure (dcD bs),.pure (flD l)]):=by
 rw [z1q,z3E]
 exact zcS bs l h1 h2
open L2 DV
open PySem (sizeLine)
def z3L (ts:List Nat) (l:List Tx):Bool:=!l.isEmpty && (l.all fun r=>r.length == (l.headD []).length) && !((l.headD []).length == 0) && l.flatten.all fun n=>ts.contains n
def lfg (ts:List Nat):D→Bool
 | .tup ds=>match z29 ds with
  | some l=>z3L ts l
  | none=>false
 | _=>false
theorem z6w {ds:List D} (h:ds.all z66=false):z29 ds=none:=by
 induction ds with
 | nil=>simp at h
 | cons d r ih =>
  cases d with
  | str x =>
   simp only [List.all_cons,z66,Bool.true_and] at h
   simp [z29,ih h]
  | _=>rfl
theorem z6v {ds:List D} (h:ds.all z66=true):∃ l:List Tx,ds=l.map .str:=by
 induction ds with
 | nil=>exact ⟨[],rfl⟩
 | cons d r ih =>
  simp only [List.all_cons,Bool.and_eq_true] at h
  obtain ⟨l,rfl⟩:=ih h.2
  cases d with
  | str x=>exact ⟨x :: l,rfl⟩
  | _=>simp [z66] at h
theorem zeP (ts:List Nat) (n:Nat):pIn false (.str [n]) (.lst (ts.map t1D))=some (.pure (.bl (ts.contains n))):=by
 have e:z29 (ts.map t1D)=some (ts.map fun n=>[n]):=by
  induction ts with
  | nil=>rfl
  | cons a r ih=>simp [z29] at ih ⊢; exact ih
 have c:(ts.map fun n=>[n]).contains [n]=ts.contains n:=by
  induction ts with
  | nil=>rfl
  | cons a r ih=>simp at ih ⊢
 unfold pIn
 simp only [e]
 rw [← c]
 rfl
theorem eq_ii (i j:Int):pEq (.int i) (.int j)=some (.pure (.bl (i == j))):=rfl
theorem mn_mx (l:List Tx) (h:l≠[]):(mnL (l.map fun r=>(r.length:Int)) == mxL (l.map fun r=>(r.length:Int)))=l.all fun r=>r.length == (l.headD []).length:=by
 obtain ⟨a,r,rfl⟩:∃ a r,l=a :: r:=by cases l with | nil=>exact (h rfl).elim | cons a r=>exact ⟨a,r,rfl⟩
 have hne:((a :: r).map fun r=>(r.length:Int))≠[]:=by simp
 obtain ⟨x1,x2⟩:=zaK _ hne
 obtain ⟨n1,n2⟩:=zaL _ hne
 cases hall:(a :: r).all fun r'=>r'.length == ((a :: r).headD []).length with
 | true =>
  rw [List.all_eq_true] at hall
  obtain ⟨y,hy,ey⟩:=List.mem_map.mp x1
  obtain ⟨z,hz,ez⟩:=List.mem_map.mp n1
  have e1:=hall y hy
  have e2:=hall z hz
  simp only [beq_iff_eq] at e1 e2
  rw [← ey,← ez,e1,e2]
  simp
 | false =>
  rw [List.all_eq_false] at hall
  obtain ⟨y,hy,ey⟩:=hall
  simp only [List.headD_cons,beq_iff_eq] at ey
  have m1:(y.length:Int) ∈ ((a :: r).map fun r=>(r.length:Int)):=List.mem_map_of_mem (f:=fun r:Tx=>(r.length:Int)) hy
  have m2:(a.length:Int) ∈ ((a :: r).map fun r=>(r.length:Int)):=List.mem_map_of_mem (f:=fun r:Tx=>(r.length:Int)) List.mem_cons_self
  have l1:=x2 _ m1
  have l2:=n2 _ m1
  have l3:=x2 _ m2
  have l4:=n2 _ m2
  have:mnL ((a :: r).map fun r=>(r.length:Int))≠mxL ((a :: r).map fun r=>(r.length:Int)):=by omega
  simp only [beq_eq_false_iff_ne,ne_eq]
  exact this
theorem q_lfg (GT:DF) (ru:D) (ts:List Nat) (gt:GT [.pure ru]=some (.own (.lst (ts.map t1D)),[.pure ru])) (c:D) (hs:SmT c) (hf:flat 50 c=true) :
  gOf [] 5 (dSeq (dIf (dOr (dNot (dTr (eIsi "tuple" (bVar 1)))) (dOr (dTr (eOpF pEq 1 (bOf (eTup aNil)))) (dNot (dTr (eC1 pAll (bOf (z28 [3] (iSq (eVar 1)) (gNm [] 3) dYes (eIsi "str" (bVar 3))))))))) (dRet (eD (.bl false))) z0N) (dSeq (dAsg (z28 [3] (iSq (eVar 1)) (gNm [] 3) dYes (eC1 pLen (bVar 3))) (gNm [] 2)) (dSeq (dIf (dOr (dTr (eOp pNe (eC1 z8F (bVar 2)) (bOf (eC1 z8G (bVar 2))))) (dTr (eOp pEq (eOpF pIx 2 (bOf (eD (.int 0)))) (bOf (eD (.int 0)))))) (dRet (eD (.bl false))) z0N) (dRet (eC1 pAll (bOf (z28 [4] (iSq (eC1 (z2t []) (bVar 1))) (gNm [] 4) dYes (eOp (pIn false) (eVar 4) (bOf (z05 GT [.val (eVar 0)])))))))))) [.pure ru,.pure c]=some (.pure (.bl (lfg ts c)),[.pure ru,.pure c]):=by
 rw [z0T]
 cases c with
 | tup ds =>
  obtain ⟨hl,hd⟩:=hs
  have q1:=zdm ds hf
  by_cases h0:ds=[]
  ·subst h0
   have:lfg ts (.tup [])=false:=rfl
   rw [this]
   simp [ioOk,z0h,dTr,eIsi,isTy,bVar,eOpF,eOpN,q1,z0y,z0f]
  ·have hE:ds.isEmpty=false:=by cases ds with | nil=>exact (h0 rfl).elim | cons _ _=>rfl
   rw [hE] at q1
   have ec:=z1D (cs:=[3]) (g:=gNm [] 3) (t:=dYes) (el:=eIsi "str" (bVar 3)) (fun d:D=>d) (fun d=>.bl (z66 d)) [some (.pure ru),some (.pure (.tup ds)),none,none,none] ds [] (by rw [z1L]; simp; omega) (fun d hd=>by
    refine ⟨_,_,.pure (.bl (z66 d)),[some (.pure ru),some (.pure (.tup ds)),none,some (.pure d),none],rfl,rfl,?_,rfl,rfl⟩
    cases d <;> rfl)
   rw [show ds.map (fun d:D=>d)=ds by simp,List.nil_append] at ec
   have ea:=zc2 ds z66
   cases hstr:ds.all z66 with
   | false =>
    have:lfg ts (.tup ds)=false:=by simp [lfg,z6w hstr]
    rw [this]
    rw [hstr] at ea
    generalize ds.map (fun d=>D.bl (z66 d))=LL at *
    simp [ioOk,z0h,dTr,eIsi,isTy,bVar,eVar,eOpF,eOpN,q1,z3r,z0x,clrD]
    rw [ec]
    simp [z20,ea,z0y,z0f]
   | true =>
    obtain ⟨l,rfl⟩:=z6v hstr
    have hlen:l.length≤1000:=by simpa using hl
    have hrow:∀ r ∈ l,r.length≤1000:=fun r hr=>hd (.str r) (List.mem_map_of_mem hr)
    have hl0:l≠[]:=fun e=>h0 (by rw [e]; rfl)
    rw [hstr] at ea
    have e2:=z1D (cs:=[3]) (g:=gNm [] 3) (t:=dYes) (el:=eC1 pLen (bVar 3)) (fun r:Tx=>D.str r) (fun r=>.int (r.length:Int)) [some (.pure ru),some (.pure (.tup (l.map .str))),none,none,none] l [] (by rw [z1L]; simp; omega) (fun r hr=>by
     refine ⟨_,_,.pure (.int (r.length:Int)),[some (.pure ru),some (.pure (.tup (l.map .str))),none,some (.pure (.str r)),none],rfl,rfl,?_,rfl,rfl⟩
     have:=z2K r (hrow r hr)
     generalize D.int (r.length:Int)=z at *
     generalize D.tup (l.map .str)=tt at *
     simp [bVar,this])
    rw [List.nil_append] at e2
    have hmm:=mn_mx l hl0
    have hni:(l.map fun r=>D.int (r.length:Int))=(l.map fun r=>(r.length:Int)).map D.int:=by simp
    have hns:∃ n ns,(l.map fun r=>(r.length:Int))=n :: ns∧n=((l.headD []).length:Int):=by
     cases l with
     | nil=>exact (hl0 rfl).elim
     | cons a r=>exact ⟨_,_,rfl,rfl⟩
    obtain ⟨n0,ns,hns,hn0⟩:=hns
    have pmin:z8F (.lst (l.map fun r=>D.int (r.length:Int)))=some (.pure (.int (mnL (l.map fun r=>(r.length:Int))))):=by
     unfold z8F
     simp only [hni,DV.ints_map]
     rw [hns]
    have pmax:z8G (.lst (l.map fun r=>D.int (r.length:Int)))=some (.pure (.int (mxL (l.map fun r=>(r.length:Int))))):=by
     unfold z8G
     simp only [hni,DV.ints_map]
     rw [hns]
    have px:pIx (.lst (l.map fun r=>D.int (r.length:Int))) (.int 0)=some (.pure (.int n0)):=by
     rw [hni,hns]
     simp [pIx,z2f]
    have pne:=z60 (mnL (l.map fun r=>(r.length:Int))) (mxL (l.map fun r=>(r.length:Int)))
    rw [hmm] at pne
    have peq:=eq_ii n0 0
    have hz:(n0 == (0:Int))=((l.headD []).length == 0):=by
     rw [hn0]
     generalize (l.headD []).length=k
     cases k with
     | zero=>rfl
     | succ k=>simp; omega
    rw [hz] at peq
    have tx:lfg ts (.tup (l.map .str))=z3L ts l:=by simp [lfg,z31]
    have hjoin:z2t [] (.tup (l.map .str))=some (.pure (.str l.flatten)):=z6K l hlen hrow
    have hfl:=z9m l hlen hrow
    rw [tx]
    have hne':l.isEmpty=false:=by cases l with | nil=>exact (hl0 rfl).elim | cons _ _=>rfl
    have gdef:z3L ts l=((l.all fun r=>r.length == (l.headD []).length) && !((l.headD []).length == 0) && l.flatten.all fun n=>ts.contains n):=by
     unfold z3L
     rw [hne']
     simp
    rw [gdef]
    generalize (l.all fun r=>r.length == (l.headD []).length)=b1 at *
    generalize ((l.headD []).length == 0)=b2 at *
    generalize mnL (l.map fun r=>(r.length:Int))=mn at *
    generalize mxL (l.map fun r=>(r.length:Int))=mx at *
    have e3:=z1D (cs:=[4]) (g:=gNm [] 4) (t:=dYes) (el:=(eOp (pIn false) (eVar 4) (bOf (z05 GT [.val (eVar 0)])))) (fun n:Nat=>D.str [n]) (fun n=>.bl (ts.contains n)) [some (.pure ru),some (.pure (.tup (l.map .str))),some (.own (.lst (l.map fun r=>D.int (r.length:Int)))),none,none] l.flatten [] (by rw [z1L]; simp only [List.length_nil]; omega) (fun n hn=>by
     refine ⟨_,_,.pure (.bl (ts.contains n)),[some (.pure ru),some (.pure (.tup (l.map .str))),some (.own (.lst (l.map fun r=>D.int (r.length:Int)))),none,some (.pure (.str [n]))],rfl,rfl,?_,rfl,rfl⟩
     have hi:=zeP ts n
     generalize ts.contains n=b at *
     generalize ts.map t1D=td at *
     generalize D.tup (l.map .str)=tt at *
     generalize (l.map fun r=>D.int (r.length:Int))=li at *
     simp [eVar,bVar,z05,ios,ndup,z0x,evX,mkA,gt,putA,hi])
    rw [List.nil_append] at e3
    have ea3:=z6g l.flatten fun n=>ts.contains n
    have sqV:∀ δ:Dl,δ[1]? = some (some (.pure (.tup (l.map .str))))→iSq (eVar 1) δ = .ok (l.map .str) δ:=fun δ h=>za1 h
    have sqJ:∀ δ:Dl,δ[1]? = some (some (.pure (.tup (l.map .str))))→iSq (eC1 (z2t []) (bVar 1)) δ = .ok (l.flatten.map fun n=>.str [n]) δ:=fun δ h=>zcA h hjoin
    have q1':pEq (.tup (l.map .str)) (.tup [])=some (.pure (.bl false)):=q1
    have it1:isTy "tuple" (.tup (l.map .str))=true:=rfl
    clear q1 hf hd hl
    generalize hL0:D.tup (l.map D.str)=fl at *
    generalize hL1:(l.map D.str).map (fun d=>D.bl (z66 d))=LL at *
    generalize hL2:(l.map fun r=>D.int (r.length:Int))=LI at *
    generalize hL3:l.flatten.map (fun n=>D.bl (ts.contains n))=LB at *
    generalize hL4:l.flatten.all (fun n=>ts.contains n)=b3 at *
    generalize hL5:l.map D.str=LS at *
    generalize hL6:l.flatten=lf at *
    cases b1 with
    | false =>
     simp [ioOk,z0h,dTr,eIsi,it1,bVar,eVar,eOpF,eOpN,q1',sqV,z0x,clrD]
     rw [ec]
     simp [z20,ea,dAsg,eVar,sqV,z0x,clrD]
     rw [e2]
     simp [z20,bVar,pmin,pmax,pne,z0y,z0f]
    | true =>
     cases b2 with
     | true =>
      simp [ioOk,z0h,dTr,eIsi,it1,bVar,eVar,eOpF,eOpN,q1',sqV,z0x,clrD]
      rw [ec]
      simp [z20,ea,dAsg,eVar,sqV,z0x,clrD]
      rw [e2]
      simp [z20,bVar,pmin,pmax,pne,px,peq,z0y,z0f]
     | false =>
      simp [ioOk,z0h,dTr,eIsi,it1,bVar,eVar,eOpF,eOpN,q1',sqV,z0x,clrD]
      rw [ec]
      simp [z20,ea,dAsg,eVar,sqV,z0x,clrD]
      rw [e2]
      simp [z20,bVar,pmin,pmax,pne,px,peq,sqJ,z0x,clrD]
      rw [e3]
      simp [z20,ea3,z0y,z0f]
 | _=>simp [ioOk,z0h,dTr,eIsi,isTy,bVar,z0y,z0f,lfg]
theorem r_lfg {h w:Nat} {bs:List (Nat×List Tx)} (R:Rul h w bs) (c:D) (hs:SmT c) (hf:flat 50 c=true):z0J [.pure (ruD h w bs),.pure c]=some (.pure (.bl (lfg (bs.map (·.1)) c)),[.pure (ruD h w bs),.pure c]):=by
 rw [z0J,z2I]
 exact q_lfg z0q _ _ (z56 R) c hs hf
open L2 DV
open PySem (sizeLine)
structure FO (f:List Tx):Prop where
 r0:0 < f.length
 r1:f.length≤64
 c0:0 < (f.headD []).length
 c1:(f.headD []).length≤64
 eq:∀ r ∈ f,r.length=(f.headD []).length
theorem FO.head {f:List Tx} (F:FO f):pIx (flD f) (.int 0)=some (.pure (.str (f.headD [])))∧pLen (.str (f.headD []))=some (.pure (.int ((f.headD []).length:Int)))∧pLen (flD f)=some (.pure (.int (f.length:Int))):=by
 refine ⟨?_,z2K _ (by have:=F.c1; omega),?_⟩
 ·have:=F.r0
  cases f with
  | nil=>simp at this
  | cons a r=>simp [pIx,z2f]
 ·rw [show flD f = .tup (f.map .str) from rfl,z0O]; simp
def z6V (h w:Nat) (bs:List (Nat×List Tx)) (f l:List Tx) (i j:Int):Bool :=
 z3L (bs.map (·.1)) l && (l.length == (i.toNat + f.length - 1) / h + 1) && ((l.headD []).length == (j.toNat + (f.headD []).length - 1) / w + 1) && eqD (flD (cut (lay h bs l) i j f.length (f.headD []).length)) (flD f)
def z0F (h w:Nat) (bs:List (Nat×List Tx)) (f:List Tx):D→Bool
 | .tup [.int i,.int j,.tup ds]=>match z29 ds with
  | some l=>decide (0≤i) && decide (i < h) && decide (0≤j) && decide (j < w) && z6V h w bs f l i j
  | none=>false
 | _=>false
def Sx:D→Prop
 | .tup [_,_,c]=>SmT c∧flat 50 c=true
 | _=>True
theorem z7q {h w:Nat} {bs:List (Nat×List Tx)} (R:Rul h w bs) {l:List Tx} (g:z3L (bs.map (·.1)) l=true) (h1:l.length≤64) (h2:(l.headD []).length≤64):FO l∧isFl (flD l)=true∧Fl2 bs l.length (l.headD []).length l:=by
 unfold z3L at g
 simp only [Bool.and_eq_true,Bool.not_eq_true',List.all_eq_true,beq_iff_eq,beq_eq_false_iff_ne,ne_eq] at g
 obtain ⟨⟨⟨g1,g2⟩,g3⟩,g4⟩:=g
 have hne:l≠[]:=by intro e; subst e; simp at g1
 have r0:0 < l.length:=by cases l with | nil=>exact (hne rfl).elim | cons _ _=>simp
 have tl:∀ r ∈ l,∀ n ∈ r,n ∈ bs.map (·.1):=fun r hr n hn=>by
  have:=g4 n (List.mem_flatten.mpr ⟨r,hr,hn⟩)
  simpa using this
 refine ⟨⟨r0,h1,by omega,h2,g2⟩,?_,⟨rfl,g2,tl⟩⟩
 have l0:len0 (l.map D.str)=(l.headD []).length:=by
  cases l with
  | nil=>exact (hne rfl).elim
  | cons a r=>rfl
 show (decide (1≤(l.map D.str).length) && decide ((l.map D.str).length≤64) && (l.map D.str).all (z2u (len0 (l.map D.str))))=true
 rw [l0]
 simp only [List.length_map,Bool.and_eq_true,decide_eq_true_eq,List.all_eq_true,List.mem_map]
 refine ⟨⟨r0,h1⟩,fun d ⟨r,hr,e⟩=>?_⟩
 subst e
 have e1:=g2 r hr
 simp only [z2u,lg,Bool.and_eq_true,decide_eq_true_eq,List.all_eq_true,beq_iff_eq]
 refine ⟨⟨⟨by omega,by omega⟩,fun n hn=>?_⟩,e1⟩
 obtain ⟨b,hb,e⟩:=List.mem_map.mp (tl r hr n hn)
 have:=R.let' b hb
 unfold letN
 simp
 rw [← e]
 omega
theorem zaB (a b:List Tx):pEq (flD a) (flD b)=some (.pure (.bl (eqD (flD a) (flD b)))):=by
 unfold pEq
 rw [z3W 49 a,z3W 49 b]
 rfl
theorem zb7 {h w:Nat} {bs:List (Nat×List Tx)} (R:Rul h w bs) {l:List Tx} (F:Fl2 bs l.length (l.headD []).length l) (O:FO l):(lay h bs l).length≤100000∧∀ r ∈ lay h bs l,r.length≤100000:=by
 have h1:=R.h1
 have w1:=R.w1
 have a:=O.r1
 have b:=O.c1
 have L:=z9e R F
 refine ⟨?_,fun r hr=>?_⟩
 ·rw [L.rows]
  have:l.length * h≤64 * 4:=Nat.mul_le_mul a h1
  omega
 ·rw [L.cols r hr]
  have:(l.headD []).length * w≤64 * 4:=Nat.mul_le_mul b w1
  omega
theorem zdg {c:D} (h:isFl c=true):∃ l:List Tx,c=flD l∧FO l:=by
 cases c with
 | tup ds =>
  simp only [isFl,Bool.and_eq_true,decide_eq_true_eq] at h
  obtain ⟨l,rfl,hl⟩:=z9n h.2
  have h1:=h.1
  simp only [List.length_map] at h1
  have hne:l≠[]:=by intro e; subst e; simp at h1
  have l0:len0 (l.map D.str)=(l.headD []).length:=by
   cases l with
   | nil=>exact (hne rfl).elim
   | cons a r=>rfl
  have ha:=h.2
  rw [l0,List.all_eq_true] at ha
  have hr:∀ r ∈ l,r.length=(l.headD []).length∧1≤r.length∧r.length≤64:=fun r hr=>by
   have:=ha (.str r) (List.mem_map_of_mem hr)
   simp only [z2u,lg,Bool.and_eq_true,decide_eq_true_eq,beq_iff_eq] at this
   exact ⟨this.2,this.1.1.1,this.1.1.2⟩
  have hm:l.headD [] ∈ l:=by
   cases l with
   | nil=>exact (hne rfl).elim
   | cons a r=>simp
  exact ⟨l,rfl,⟨by omega,by omega,(hr _ hm).2.1,(hr _ hm).2.2,fun r h'=>(hr r h').1⟩⟩
 | _=>simp [isFl] at h
theorem zc3 {m:Int} {a:D} (h:wi m a=true):∃ i:Nat,a = .int i∧(i:Int)≤m:=by
 cases a with
 | int i =>
  simp [wi] at h
  exact ⟨i.toNat,by rw [Int.toNat_of_nonneg h.1],by omega⟩
 | _=>simp [wi] at h
theorem z2x {h w:Nat} {bs:List (Nat×List Tx)} {f:List Tx} {x:D} (hx:z0F h w bs f x=true):∃ (i j:Nat) (l:List Tx),x = .tup [.int i,.int j,flD l]∧i < h∧j < w∧z6V h w bs f l i j=true:=by
 unfold z0F at hx
 split at hx
 ·rename_i i j ds
  cases e:z29 ds with
  | none=>rw [e] at hx; cases hx
  | some l =>
   rw [e] at hx
   simp only [Bool.and_eq_true,decide_eq_true_eq] at hx
   have ds':ds=l.map D.str:=by
    clear hx
    induction ds generalizing l with
    | nil=>simp [z29] at e; subst e; rfl
    | cons d r ih =>
     cases d with
     | str z =>
      simp only [z29,Option.map_eq_some_iff] at e
      obtain ⟨l',e',rfl⟩:=e
      rw [ih l' e']; rfl
     | _=>simp [z29] at e
   subst ds'
   obtain ⟨⟨⟨⟨h1,h2⟩,h3⟩,h4⟩,h5⟩:=hx
   refine ⟨i.toNat,j.toNat,l,?_,by omega,by omega,?_⟩
   ·rw [Int.toNat_of_nonneg h1,Int.toNat_of_nonneg h3]
   ·rw [Int.toNat_of_nonneg h1,Int.toNat_of_nonneg h3]; exact h5
 ·cases hx
theorem z6U {h w i j:Nat} {bs:List (Nat×List Tx)} (R:Rul h w bs) {f l:List Tx} (O:FO f) (hi:i < h) (hj:j < w) (hs:z6V h w bs f l i j=true):FO l∧isFl (flD l)=true∧Fl2 bs l.length (l.headD []).length l∧l.length=(i + f.length - 1) / h + 1∧(l.headD []).length=(j + (f.headD []).length - 1) / w + 1∧z3L (bs.map (·.1)) l=true:=by
 unfold z6V at hs
 simp only [Bool.and_eq_true,beq_iff_eq,Int.toNat_natCast] at hs
 obtain ⟨⟨⟨g,a⟩,b⟩,_⟩:=hs
 have n1:=z7j hi O.r0
 have n2:=z7j hj O.c0
 have:=O.r1
 have:=O.c1
 obtain ⟨x,y,z⟩:=z7q R g (by omega) (by omega)
 exact ⟨x,y,z,a,b,g⟩
theorem z8S (a b:Nat):(((a:Int)) == ((b:Int)))=(a == b):=by
 cases h:a == b with
 | true=>simp at h; subst h; simp
 | false=>simp at h ⊢; omega
theorem z7I {h w:Nat} {bs:List (Nat×List Tx)} {f:List Tx} {a b c:D} (hx:z0F h w bs f (.tup [a,b,c])=true):wi ((h:Int) - 1) a=true∧wi ((w:Int) - 1) b=true:=by
 obtain ⟨i,j,l,e,hi,hj,_⟩:=z2x hx
 simp only [D.tup.injEq,List.cons.injEq,and_true] at e
 obtain ⟨rfl,rfl,rfl⟩:=e
 simp [wi]
 omega
theorem z5I {h w:Nat} {bs:List (Nat×List Tx)} {f:List Tx} (i j:Nat) (hi:i < h) (hj:j < w) (l:List Tx):z0F h w bs f (.tup [.int i,.int j,flD l])=z6V h w bs f l i j:=by
 have:z29 (l.map D.str)=some l:=z31 l
 show (match z29 (l.map D.str) with | some l=>decide (0≤(i:Int)) && decide ((i:Int) < h) && decide (0≤(j:Int)) && decide ((j:Int) < w) && z6V h w bs f l i j | none=>false)=_
 rw [this]
 have c1:decide (0≤(i:Int))=true:=by simp
 have c2:decide ((i:Int) < (h:Int))=true:=by simp; omega
 have c3:decide (0≤(j:Int))=true:=by simp
 have c4:decide ((j:Int) < (w:Int))=true:=by simp; omega
 simp only [c1,c2,c3,c4,Bool.true_and]
theorem zap (GW GF GN GK GC GL:DF) {h w:Nat} {bs:List (Nat×List Tx)} (R:Rul h w bs) {f:List Tx} (O:FO f) (x:D) (hx:Sx x)
  (gw:∀ d m,GW [.pure d,.pure (.int 0),.pure (.int m)]=some (.pure (.bl (wi m d)),[.pure d,.pure (.int 0),.pure (.int m)]))
  (gf:∀ d,SmT d→GF [.pure d]=some (.pure (.bl (isFl d)),[.pure d]))
  (gn:∀ i F h:Nat,0 < h→h≤4→0 < F→GN [.pure (.int i),.pure (.int F),.pure (.int h)]=some (.pure (.int (((i + F - 1) / h + 1:Nat):Int)),[.pure (.int i),.pure (.int F),.pure (.int h)]))
  (gk:∀ l:List Tx,FO l→GK [.pure (dcD bs),.pure (flD l)]=some (.pure (.bl (l.flatten.all fun n=>(bs.map (·.1)).contains n)),[.pure (dcD bs),.pure (flD l)]))
  (gl:∀ l:List Tx,FO l→Fl2 bs l.length (l.headD []).length l→GL [.pure (dcD bs),.pure (.int h),.pure (flD l)]=some (.pure (flD (lay h bs l)),[.pure (dcD bs),.pure (.int h),.pure (flD l)]))
  (gc:∀ (l:List Tx) (i j r c:Nat),l.length≤100000→(∀ r ∈ l,r.length≤100000)→GC [.pure (flD l),.pure (.int i),.pure (.int j),.pure (.int r),.pure (.int c)]=some (.pure (flD (cut l i j r c)),[.pure (flD l),.pure (.int i),.pure (.int j),.pure (.int r),.pure (.int c)])) :
  gOf [] 12 (dSeq (dIf (dOr (dNot (dTr (eIsi "tuple" (bVar 2)))) (dTr (eOp pNe (eC1 pLen (bVar 2)) (bOf (eD (.int 3)))))) (dRet (eD (.bl false))) z0N) (dSeq (dAsg (eVar 0) (gTp 3 (z0i (gNm [] 3) (z0i (gNm [] 4) (z0i (gNm [] 5) z1F))))) (dSeq (dAsg (eVar 2) (gTp 3 (z0i (gNm [] 6) (z0i (gNm [] 7) (z0i (gNm [] 8) z1F))))) (dSeq (dIf (dOr (dNot (dTr (z05 GW [.val (eVar 6),.val (eD (.int 0)),.val (eOpF pSub 3 (bOf (eD (.int 1))))]))) (dOr (dNot (dTr (z05 GW [.val (eVar 7),.val (eD (.int 0)),.val (eOpF pSub 4 (bOf (eD (.int 1))))]))) (dNot (dTr (z05 GF [.val (eVar 8)]))))) (dRet (eD (.bl false))) z0N) (dSeq (dAsg (eC1 pLen (bVar 1)) (gNm [] 9)) (dSeq (dAsg (eC1 pLen (bOf (eOpF pIx 1 (bOf (eD (.int 0)))))) (gNm [] 10)) (dSeq (dIf (dOr (dTr (eOp pNe (eC1 pLen (bVar 8)) (bOf (z05 GN [.val (eVar 6),.val (eVar 9),.val (eVar 3)])))) (dTr (eOp pNe (eC1 pLen (bOf (eOpF pIx 8 (bOf (eD (.int 0)))))) (bOf (z05 GN [.val (eVar 7),.val (eVar 10),.val (eVar 4)]))))) (dRet (eD (.bl false))) z0N) (dSeq (dAsg (eC1 z2E (bVar 5)) (gNm [] 11)) (dRet (eAnd (z05 GK [.val (eVar 11),.val (eVar 8)]) (eOp pEq (z05 GC [.val (z05 GL [.val (eVar 11),.val (eVar 3),.val (eVar 8)]),.val (eVar 6),.val (eVar 7),.val (eVar 9),.val (eVar 10)]) (bVar 1)))))))))))) [.pure (ruD h w bs),.pure (flD f),.pure x]=some (.pure (.bl (z0F h w bs f x)),[.pure (ruD h w bs),.pure (flD f),.pure x]):=by
 have h1:=R.h1
 have w1:=R.w1
 have h0:=R.h0
 have w0:=R.w0
 obtain ⟨f1,f2,f3⟩:=O.head
 have hdc:=z7x R
 rw [z0T]
 cases x with
 | tup ds =>
  by_cases h3:ds.length=3
  ·obtain ⟨a,b,c,rfl⟩:=tup3 ds h3
   obtain ⟨hx1,hx2⟩:=hx
   have g1:=gw a ((h:Int) - 1)
   have g2:=gw b ((w:Int) - 1)
   have g3:=gf c hx1
   have ne3:pNe (.int 3) (.int 3)=some (.pure (.bl false)):=rfl
   have s1:pSub (.int h) (.int 1)=some (.pure (.int ((h:Int) - 1))):=rfl
   have s2:pSub (.int w) (.int 1)=some (.pure (.int ((w:Int) - 1))):=rfl
   cases ha:wi ((h:Int) - 1) a with
   | false =>
    have:z0F h w bs f (.tup [a,b,c])=false:=by
     cases hs:z0F h w bs f (.tup [a,b,c]) with
     | false=>rfl
     | true=>have:=(z7I hs).1; rw [ha] at this; cases this
    rw [this]
    rw [ha] at g1
    generalize D.int ((h:Int) - 1)=y1 at *
    simp [ioOk,z0h,dTr,eIsi,isTy,bVar,eVar,z0O,ne3,dAsg,gTp,z0i,z1F,z05,ios,ndup,z0x,evX,mkA,eOpF,eOpN,s1,g1,putA,z0y,z0f]
   | true =>
    rw [ha] at g1
    cases hb:wi ((w:Int) - 1) b with
    | false =>
     have:z0F h w bs f (.tup [a,b,c])=false:=by
      cases hs:z0F h w bs f (.tup [a,b,c]) with
      | false=>rfl
      | true=>have:=(z7I hs).2; rw [hb] at this; cases this
     rw [this]
     rw [hb] at g2
     generalize D.int ((h:Int) - 1)=y1 at *
     generalize D.int ((w:Int) - 1)=y2 at *
     simp [ioOk,z0h,dTr,eIsi,isTy,bVar,eVar,z0O,ne3,dAsg,gTp,z0i,z1F,z05,ios,ndup,z0x,evX,mkA,eOpF,eOpN,s1,s2,g1,g2,putA,z0y,z0f]
    | true =>
     rw [hb] at g2
     obtain ⟨i,rfl,hi⟩:=zc3 ha
     obtain ⟨j,rfl,hj⟩:=zc3 hb
     have hi':i < h:=by omega
     have hj':j < w:=by omega
     cases hc:isFl c with
     | false =>
      have:z0F h w bs f (.tup [.int i,.int j,c])=false:=by
       cases hs:z0F h w bs f (.tup [.int i,.int j,c]) with
       | false=>rfl
       | true =>
        obtain ⟨i',j',l,e,ki,kj,ks⟩:=z2x hs
        simp only [D.tup.injEq,List.cons.injEq,and_true] at e
        obtain ⟨e1,e2,e3⟩:=e
        subst e3
        have:=(z6U R O ki kj ks).2.1
        rw [hc] at this; cases this
      rw [this]
      rw [hc] at g3
      generalize D.int ((h:Int) - 1)=y1 at *
      generalize D.int ((w:Int) - 1)=y2 at *
      simp [ioOk,z0h,dTr,eIsi,isTy,bVar,eVar,z0O,ne3,dAsg,gTp,z0i,z1F,z05,ios,ndup,z0x,evX,mkA,eOpF,eOpN,s1,s2,g1,g2,g3,putA,z0y,z0f]
     | true =>
      rw [hc] at g3
      obtain ⟨l,rfl,Ol⟩:=zdg hc
      rw [z5I i j hi' hj' l]
      obtain ⟨l1,l2,l3⟩:=Ol.head
      have n1:=gn i f.length h h0 h1 O.r0
      have n2:=gn j (f.headD []).length w w0 w1 O.c0
      have c1:=z60 (l.length:Int) (((i + f.length - 1) / h + 1:Nat):Int)
      have c2:=z60 ((l.headD []).length:Int) (((j + (f.headD []).length - 1) / w + 1:Nat):Int)
      rw [z8S] at c1 c2
      have k1:=gk l Ol
      unfold z6V
      simp only [Int.toNat_natCast]
      cases b1:l.length == (i + f.length - 1) / h + 1 with
      | false =>
       rw [b1] at c1
       generalize D.int ((h:Int) - 1)=y1 at *
       generalize D.int ((w:Int) - 1)=y2 at *
       generalize D.int (((i + f.length - 1) / h + 1:Nat):Int)=y3 at *
       generalize D.int (l.length:Int)=y4 at *
       generalize D.int (f.length:Int)=y5 at *
       generalize flD f=ff at *
       generalize flD l=fl at *
       generalize f.headD []=fh at *
       simp [ioOk,z0h,dTr,eIsi,isTy,bVar,eVar,z0O,ne3,dAsg,gTp,z0i,z1F,z05,ios,ndup,z0x,evX,mkA,eOpF,eOpN,s1,s2,g1,g2,g3,putA,f1,f2,f3,l3,n1,c1,z0y,z0f]
      | true =>
       rw [b1] at c1
       cases b2:(l.headD []).length == (j + (f.headD []).length - 1) / w + 1 with
       | false =>
        rw [b2] at c2
        generalize D.int ((h:Int) - 1)=y1 at *
        generalize D.int ((w:Int) - 1)=y2 at *
        generalize D.int (((i + f.length - 1) / h + 1:Nat):Int)=y3 at *
        generalize D.int (((j + (f.headD []).length - 1) / w + 1:Nat):Int)=y6 at *
        generalize D.int (l.length:Int)=y4 at *
        generalize D.int ((l.headD []).length:Int)=y7 at *
        generalize D.int (f.length:Int)=y5 at *
        generalize D.int ((f.headD []).length:Int)=y8 at *
        generalize flD f=ff at *
        generalize flD l=fl at *
        generalize f.headD []=fh at *
        generalize l.headD []=lh at *
        simp [ioOk,z0h,dTr,eIsi,isTy,bVar,eVar,z0O,ne3,dAsg,gTp,z0i,z1F,z05,ios,ndup,z0x,evX,mkA,eOpF,eOpN,s1,s2,g1,g2,g3,putA,f1,f2,f3,l1,l2,l3,n1,n2,c1,c2,z0y,z0f]
       | true =>
        rw [b2] at c2
        cases b3:l.flatten.all fun n=>(bs.map (·.1)).contains n with
        | false =>
         have hg:z3L (bs.map (·.1)) l=false:=by unfold z3L; rw [b3]; simp
         rw [hg]
         rw [b3] at k1
         generalize D.int ((h:Int) - 1)=y1 at *
         generalize D.int ((w:Int) - 1)=y2 at *
         generalize D.int (((i + f.length - 1) / h + 1:Nat):Int)=y3 at *
         generalize D.int (((j + (f.headD []).length - 1) / w + 1:Nat):Int)=y6 at *
         generalize D.int (l.length:Int)=y4 at *
         generalize D.int ((l.headD []).length:Int)=y7 at *
         generalize D.int (f.length:Int)=y5 at *
         generalize D.int ((f.headD []).length:Int)=y8 at *
         generalize flD f=ff at *
         generalize flD l=fl at *
         generalize f.headD []=fh at *
         generalize l.headD []=lh at *
         generalize dcD bs=dd at *
         simp [ioOk,z0h,dTr,eIsi,isTy,bVar,eVar,z0O,ne3,dAsg,gTp,z0i,z1F,z05,ios,ndup,z0x,evX,mkA,eOpF,eOpN,s1,s2,g1,g2,g3,putA,f1,f2,f3,l1,l2,l3,n1,n2,c1,c2,hdc,eAnd,k1,z0y,z0f]
        | true =>
         have hg:z3L (bs.map (·.1)) l=true:=by
          unfold z3L
          rw [b3]
          simp only [Bool.and_eq_true,Bool.not_eq_true',List.all_eq_true,beq_iff_eq,beq_eq_false_iff_ne,ne_eq,and_true]
          refine ⟨⟨?_,Ol.eq⟩,by have:=Ol.c0; omega⟩
          have:=Ol.r0
          cases l with
          | nil=>simp at this
          | cons _ _=>rfl
         rw [hg]
         obtain ⟨_,_,F2⟩:=z7q R hg Ol.r1 Ol.c1
         obtain ⟨z1,z2⟩:=zb7 R F2 Ol
         have k2:=gl l Ol F2
         have k3:=gc (lay h bs l) i j f.length (f.headD []).length z1 z2
         have k4:=zaB (cut (lay h bs l) i j f.length (f.headD []).length) f
         rw [b3] at k1
         simp only [Bool.true_and]
         generalize eqD (flD (cut (lay h bs l) i j f.length (f.headD []).length)) (flD f)=rb at *
         generalize flD (cut (lay h bs l) i j f.length (f.headD []).length)=fc at *
         generalize flD (lay h bs l)=fg at *
         generalize D.int ((h:Int) - 1)=y1 at *
         generalize D.int ((w:Int) - 1)=y2 at *
         generalize D.int (((i + f.length - 1) / h + 1:Nat):Int)=y3 at *
         generalize D.int (((j + (f.headD []).length - 1) / w + 1:Nat):Int)=y6 at *
         generalize D.int (l.length:Int)=y4 at *
         generalize D.int ((l.headD []).length:Int)=y7 at *
         generalize D.int (f.length:Int)=y5 at *
         generalize D.int ((f.headD []).length:Int)=y8 at *
         generalize flD f=ff at *
         generalize flD l=fl at *
         generalize f.headD []=fh at *
         generalize l.headD []=lh at *
         generalize dcD bs=dd at *
         simp [ioOk,z0h,dTr,eIsi,isTy,bVar,eVar,z0O,ne3,dAsg,gTp,z0i,z1F,z05,ios,ndup,z0x,evX,mkA,eOpF,eOpN,s1,s2,g1,g2,g3,putA,f1,f2,f3,l1,l2,l3,n1,n2,c1,c2,hdc,eAnd,k1,k2,k3,k4,z0y,z0f]
  ·have:z0F h w bs f (.tup ds)=false:=by
    cases hs:z0F h w bs f (.tup ds) with
    | false=>rfl
    | true =>
     obtain ⟨i,j,l,e,_⟩:=z2x hs
     simp only [D.tup.injEq] at e
     subst e
     simp at h3
   rw [this]
   have h3':¬ (ds.length:Int)=3:=by omega
   simp [ioOk,z0h,dTr,eIsi,isTy,bVar,z0O,z60,h3',z0y,z0f]
 | _=>simp [ioOk,z0h,dTr,eIsi,isTy,bVar,z0y,z0f,z0F]
theorem zal {h w:Nat} {bs:List (Nat×List Tx)} (R:Rul h w bs) {f:List Tx} (O:FO f) (x:D) (hx:Sx x):z0Y [.pure (ruD h w bs),.pure (flD f),.pure x]=some (.pure (.bl (z0F h w bs f x)),[.pure (ruD h w bs),.pure (flD f),.pure x]):=by
 rw [z0Y,z3e]
 exact zap z0p z1I z0L z1q z18 z0X R O x hx zah (fun d hd=>z7U d hd) (fun i F h h0 h1 hF=>zdT i F h h0 h1 hF)
  (fun l Ol=>zcN bs l (by have:=Ol.r1; omega) (fun r hr=>by have:=Ol.eq r hr; have:=Ol.c1; omega))
  (fun l Ol F=>zc7 R F (by have:=Ol.r1; omega) (by have:=Ol.c1; omega))
  (fun l i j r c h1 h2=>by rw [z18,z3F]; exact zbz h1 h2 _ _ _ _)
open L2 DV
open PySem (sizeLine)
theorem lt_int (i j:Int):pLt (.int i) (.int j)=some (.pure (.bl (decide (i < j)))):=rfl
theorem ne_pp (a b c d:Nat):pNe (.tup [.int (a:Int),.int (b:Int)]) (.tup [.int (c:Int),.int (d:Int)])=some (.pure (.bl (!(a == c && b == d)))):=by
 have e:pNe (.tup [.int (a:Int),.int (b:Int)]) (.tup [.int (c:Int),.int (d:Int)])=some (.pure (.bl (!(((a:Int) == (c:Int)) && (((b:Int) == (d:Int)) && true))))):=rfl
 rw [e,z8S,z8S,Bool.and_true]
theorem zeC {ts:List Nat} {c:D} (h:lfg ts c=true):∃ l:List Tx,c=flD l∧z3L ts l=true:=by
 cases c with
 | tup ds =>
  cases hs:ds.all z66 with
  | false=>simp [lfg,z6w hs] at h
  | true =>
   obtain ⟨l,rfl⟩:=z6v hs
   simp [lfg,z31] at h
   exact ⟨l,rfl,h⟩
 | _=>simp [lfg] at h
theorem zci {a:D} (h:isI a=true):∃ i,a = .int i:=by
 cases a with
 | int i=>exact ⟨i,rfl⟩
 | _=>simp [isI] at h
theorem ze4 (GW GF GN GC GL:DF) {h w:Nat} {bs:List (Nat×List Tx)} (R:Rul h w bs) {f:List Tx} (O:FO f) (x:D) (hx:Sx x)
  (gw:∀ d,GW [.pure d]=some (.pure (.bl (isI d)),[.pure d]))
  (gf:∀ d,SmT d→flat 50 d=true→GF [.pure (ruD h w bs),.pure d]=some (.pure (.bl (lfg (bs.map (·.1)) d)),[.pure (ruD h w bs),.pure d]))
  (gn:∀ i F h:Nat,0 < h→h≤4→0 < F→GN [.pure (.int i),.pure (.int F),.pure (.int h)]=some (.pure (.int (((i + F - 1) / h + 1:Nat):Int)),[.pure (.int i),.pure (.int F),.pure (.int h)]))
  (gl:∀ l:List Tx,FO l→Fl2 bs l.length (l.headD []).length l→GL [.pure (ruD h w bs),.pure (flD l)]=some (.pure (flD (lay h bs l)),[.pure (ruD h w bs),.pure (flD l)]))
  (gc:∀ (l:List Tx) (i j r c:Nat),l.length≤100000→(∀ r ∈ l,r.length≤100000)→GC [.pure (flD l),.pure (.int i),.pure (.int j),.pure (.int r),.pure (.int c)]=some (.pure (flD (cut l i j r c)),[.pure (flD l),.pure (.int i),.pure (.int j),.pure (.int r),.pure (.int c)])) :
  gOf [] 6 (dSeq (dIf (dOr (dNot (dTr (eIsi "tuple" (bVar 2)))) (dOr (dTr (eOp pNe (eC1 pLen (bVar 2)) (bOf (eD (.int 3))))) (dOr (dNot (dTr (z05 GW [.val (eOpF pIx 2 (bOf (eD (.int 0))))]))) (dNot (dTr (z05 GW [.val (eOpF pIx 2 (bOf (eD (.int 1))))])))))) (dRet (eD (.bl false))) z0N) (dSeq (dAsg (eVar 2) (gTp 3 (z0i (gNm [] 3) (z0i (gNm [] 4) (z0i (gNm [] 5) z1F))))) (dSeq (dIf (dOr (dNot (dTr (z3A pLe pLt (eD (.int 0)) (eVar 3) (bOf (eOpF pIx 0 (bOf (eD (.int 0)))))))) (dOr (dNot (dTr (z3A pLe pLt (eD (.int 0)) (eVar 4) (bOf (eOpF pIx 0 (bOf (eD (.int 1)))))))) (dNot (dTr (z05 GF [.val (eVar 0),.val (eVar 5)]))))) (dRet (eD (.bl false))) z0N) (dSeq (dIf (dTr (eOp pNe (eTup (z09 (eC1 pLen (bVar 5)) (z09 (eC1 pLen (bOf (eOpF pIx 5 (bOf (eD (.int 0)))))) aNil))) (bOf (eTup (z09 (z05 GN [.val (eVar 3),.val (eC1 pLen (bVar 1)),.val (eOpF pIx 0 (bOf (eD (.int 0))))]) (z09 (z05 GN [.val (eVar 4),.val (eC1 pLen (bOf (eOpF pIx 1 (bOf (eD (.int 0)))))),.val (eOpF pIx 0 (bOf (eD (.int 1))))]) aNil)))))) (dRet (eD (.bl false))) z0N) (dRet (eOp pEq (z05 GC [.val (z05 GL [.val (eVar 0),.val (eVar 5)]),.val (eVar 3),.val (eVar 4),.val (eC1 pLen (bVar 1)),.val (eC1 pLen (bOf (eOpF pIx 1 (bOf (eD (.int 0))))))]) (bVar 1))))))) [.pure (ruD h w bs),.pure (flD f),.pure x]=some (.pure (.bl (z0F h w bs f x)),[.pure (ruD h w bs),.pure (flD f),.pure x]):=by
 have h1:=R.h1
 have w1:=R.w1
 have h0:=R.h0
 have w0:=R.w0
 obtain ⟨f1,f2,f3⟩:=O.head
 obtain ⟨x0,x1,_⟩:=z4k h w bs
 rw [z0T]
 cases x with
 | tup ds =>
  by_cases h3:ds.length=3
  ·obtain ⟨a,b,c,rfl⟩:=tup3 ds h3
   obtain ⟨hx1,hx2⟩:=hx
   have g1:=gw a
   have g2:=gw b
   have g3:=gf c hx1 hx2
   have i0:=ix30 a b c
   have i1:=ix31 a b c
   have ne3:pNe (.int 3) (.int 3)=some (.pure (.bl false)):=rfl
   have gen:z0F h w bs f (.tup [a,b,c])=true→isI a=true∧isI b=true:=fun hs=>by
    obtain ⟨i,j,l,e,_⟩:=z2x hs
    simp only [D.tup.injEq,List.cons.injEq,and_true] at e
    obtain ⟨rfl,rfl,rfl⟩:=e
    exact ⟨rfl,rfl⟩
   cases ha:isI a with
   | false =>
    have:z0F h w bs f (.tup [a,b,c])=false:=by
     cases hs:z0F h w bs f (.tup [a,b,c]) with
     | false=>rfl
     | true=>have:=(gen hs).1; rw [ha] at this; cases this
    rw [this]
    rw [ha] at g1
    generalize ruD h w bs=ru at *
    generalize flD f=ff at *
    simp [ioOk,z0h,dTr,eIsi,isTy,bVar,eVar,z0O,ne3,i0,z05,ios,ndup,z0x,evX,mkA,eOpF,eOpN,g1,putA,z0y,z0f]
   | true =>
    rw [ha] at g1
    cases hb:isI b with
    | false =>
     have:z0F h w bs f (.tup [a,b,c])=false:=by
      cases hs:z0F h w bs f (.tup [a,b,c]) with
      | false=>rfl
      | true=>have:=(gen hs).2; rw [hb] at this; cases this
     rw [this]
     rw [hb] at g2
     generalize ruD h w bs=ru at *
     generalize flD f=ff at *
     simp [ioOk,z0h,dTr,eIsi,isTy,bVar,eVar,z0O,ne3,i0,i1,z05,ios,ndup,z0x,evX,mkA,eOpF,eOpN,g1,g2,putA,z0y,z0f]
    | true =>
     rw [hb] at g2
     obtain ⟨i,rfl⟩:=zci ha
     obtain ⟨j,rfl⟩:=zci hb
     have p1:=le_int 0 i
     have p2:=lt_int i h
     have p3:=le_int 0 j
     have p4:=lt_int j w
     have gen2:z0F h w bs f (.tup [.int i,.int j,c])=true→0≤i∧i < h∧0≤j∧j < w∧lfg (bs.map (·.1)) c=true:=fun hs=>by
      obtain ⟨i',j',l,e,ki,kj,ks⟩:=z2x hs
      simp only [D.tup.injEq,List.cons.injEq,and_true,D.int.injEq] at e
      obtain ⟨rfl,rfl,rfl⟩:=e
      refine ⟨by omega,by omega,by omega,by omega,?_⟩
      have:=(z6U R O ki kj ks).2.2.2.2.2
      show (match z29 (l.map D.str) with | some l=>z3L (bs.map (·.1)) l | none=>false)=true
      rw [z31]
      exact this
     by_cases q1:0≤i
     ·by_cases q2:i < h
      ·by_cases q3:0≤j
       ·by_cases q4:j < w
        ·rw [decide_eq_true q1] at p1
         rw [decide_eq_true q2] at p2
         rw [decide_eq_true q3] at p3
         rw [decide_eq_true q4] at p4
         cases hc:lfg (bs.map (·.1)) c with
         | false =>
          have:z0F h w bs f (.tup [.int i,.int j,c])=false:=by
           cases hs:z0F h w bs f (.tup [.int i,.int j,c]) with
           | false=>rfl
           | true=>have:=(gen2 hs).2.2.2.2; rw [hc] at this; cases this
          rw [this]
          rw [hc] at g3
          generalize ruD h w bs=ru at *
          generalize flD f=ff at *
          simp [ioOk,z0h,dTr,eIsi,isTy,bVar,eVar,z0O,ne3,i0,i1,z05,ios,ndup,z0x,evX,mkA,eOpF,eOpN,g1,g2,g3,putA,dAsg,gTp,z0i,z1F,z1w,p1,p2,p3,p4,x0,x1,z0y,z0f]
         | true =>
          rw [hc] at g3
          obtain ⟨l,rfl,gt⟩:=zeC hc
          obtain ⟨i,rfl⟩:∃ i':Nat,i=i':=⟨i.toNat,by omega⟩
          obtain ⟨j,rfl⟩:∃ j':Nat,j=j':=⟨j.toNat,by omega⟩
          have hi':i < h:=by omega
          have hj':j < w:=by omega
          rw [z5I i j hi' hj' l]
          have lne:l≠[]:=by intro e; subst e; simp [z3L] at gt
          have lrow:(l.headD []).length≤1000:=by
           have hm:l.headD [] ∈ l:=by
            cases l with
            | nil=>exact (lne rfl).elim
            | cons a r=>simp
           exact hx1.2 (.str (l.headD [])) (List.mem_map_of_mem hm)
          have l1:pIx (flD l) (.int 0)=some (.pure (.str (l.headD []))):=by
           cases l with
           | nil=>exact (lne rfl).elim
           | cons a r=>simp [pIx,z2f]
          have l2:=z2K (l.headD []) lrow
          have l3:pLen (flD l)=some (.pure (.int (l.length:Int))):=by rw [show flD l = .tup (l.map .str) from rfl,z0O]; simp
          have n1:=gn i f.length h h0 h1 O.r0
          have n2:=gn j (f.headD []).length w w0 w1 O.c0
          have c1:=ne_pp l.length (l.headD []).length ((i + f.length - 1) / h + 1) ((j + (f.headD []).length - 1) / w + 1)
          unfold z6V
          simp only [Int.toNat_natCast,gt,Bool.true_and]
          cases b1:l.length == (i + f.length - 1) / h + 1 && (l.headD []).length == (j + (f.headD []).length - 1) / w + 1 with
          | false =>
           rw [b1] at c1
           generalize D.int (((i + f.length - 1) / h + 1:Nat):Int)=y3 at *
           generalize D.int (((j + (f.headD []).length - 1) / w + 1:Nat):Int)=y6 at *
           generalize D.int (l.length:Int)=y4 at *
           generalize D.int ((l.headD []).length:Int)=y7 at *
           generalize D.int (f.length:Int)=y5 at *
           generalize D.int ((f.headD []).length:Int)=y8 at *
           generalize ruD h w bs=ru at *
           generalize flD f=ff at *
           generalize flD l=fl at *
           generalize f.headD []=fh at *
           generalize l.headD []=lh at *
           simp [ioOk,z0h,dTr,eIsi,isTy,bVar,eVar,z0O,ne3,i0,i1,z05,ios,ndup,z0x,evX,mkA,eOpF,eOpN,g1,g2,g3,putA,dAsg,gTp,z0i,z1F,z1w,p1,p2,p3,p4,x0,x1,f1,f2,f3,l1,l2,l3,n1,n2,c1,z0y,z0f]
          | true =>
           rw [b1] at c1
           simp only [Bool.and_eq_true,beq_iff_eq] at b1
           have e1:=z7j hi' O.r0
           have e2:=z7j hj' O.c0
           have e3:=O.r1
           have e4:=O.c1
           obtain ⟨Ol,_,F2⟩:=z7q R gt (by omega) (by omega)
           obtain ⟨z1,z2⟩:=zb7 R F2 Ol
           have k2:=gl l Ol F2
           have k3:=gc (lay h bs l) i j f.length (f.headD []).length z1 z2
           have k4:=zaB (cut (lay h bs l) i j f.length (f.headD []).length) f
           clear b1 e1 e2
           simp only [Bool.true_and]
           generalize eqD (flD (cut (lay h bs l) i j f.length (f.headD []).length)) (flD f)=rb at *
           generalize flD (cut (lay h bs l) i j f.length (f.headD []).length)=fc at *
           generalize flD (lay h bs l)=fg at *
           generalize D.int (((i + f.length - 1) / h + 1:Nat):Int)=y3 at *
           generalize D.int (((j + (f.headD []).length - 1) / w + 1:Nat):Int)=y6 at *
           generalize D.int (l.length:Int)=y4 at *
           generalize D.int ((l.headD []).length:Int)=y7 at *
           generalize D.int (f.length:Int)=y5 at *
           generalize D.int ((f.headD []).length:Int)=y8 at *
           generalize ruD h w bs=ru at *
           generalize flD f=ff at *
           generalize flD l=fl at *
           generalize f.headD []=fh at *
           generalize l.headD []=lh at *
           simp [ioOk,z0h,dTr,eIsi,isTy,bVar,eVar,z0O,ne3,i0,i1,z05,ios,ndup,z0x,evX,mkA,eOpF,eOpN,g1,g2,g3,putA,dAsg,gTp,z0i,z1F,z1w,p1,p2,p3,p4,x0,x1,f1,f2,f3,l1,l2,l3,n1,n2,c1,k2,k3,k4,z0y,z0f]
        ·have:z0F h w bs f (.tup [.int i,.int j,c])=false:=by
          cases hs:z0F h w bs f (.tup [.int i,.int j,c]) with
          | false=>rfl
          | true=>exact (q4 (gen2 hs).2.2.2.1).elim
         rw [this]
         rw [decide_eq_true q1] at p1
         rw [decide_eq_true q2] at p2
         rw [decide_eq_true q3] at p3
         rw [decide_eq_false q4] at p4
         generalize ruD h w bs=ru at *
         generalize flD f=ff at *
         simp [ioOk,z0h,dTr,eIsi,isTy,bVar,eVar,z0O,ne3,i0,i1,z05,ios,ndup,z0x,evX,mkA,eOpF,eOpN,g1,g2,g3,putA,dAsg,gTp,z0i,z1F,z1w,p1,p2,p3,p4,x0,x1,z0y,z0f]
       ·have:z0F h w bs f (.tup [.int i,.int j,c])=false:=by
         cases hs:z0F h w bs f (.tup [.int i,.int j,c]) with
         | false=>rfl
         | true=>exact (q3 (gen2 hs).2.2.1).elim
        rw [this]
        rw [decide_eq_true q1] at p1
        rw [decide_eq_true q2] at p2
        rw [decide_eq_false q3] at p3
        generalize ruD h w bs=ru at *
        generalize flD f=ff at *
        simp [ioOk,z0h,dTr,eIsi,isTy,bVar,eVar,z0O,ne3,i0,i1,z05,ios,ndup,z0x,evX,mkA,eOpF,eOpN,g1,g2,g3,putA,dAsg,gTp,z0i,z1F,z1w,p1,p2,p3,p4,x0,x1,z0y,z0f]
      ·have:z0F h w bs f (.tup [.int i,.int j,c])=false:=by
        cases hs:z0F h w bs f (.tup [.int i,.int j,c]) with
        | false=>rfl
        | true=>exact (q2 (gen2 hs).2.1).elim
       rw [this]
       rw [decide_eq_true q1] at p1
       rw [decide_eq_false q2] at p2
       generalize ruD h w bs=ru at *
       generalize flD f=ff at *
       simp [ioOk,z0h,dTr,eIsi,isTy,bVar,eVar,z0O,ne3,i0,i1,z05,ios,ndup,z0x,evX,mkA,eOpF,eOpN,g1,g2,g3,putA,dAsg,gTp,z0i,z1F,z1w,p1,p2,x0,x1,z0y,z0f]
     ·have:z0F h w bs f (.tup [.int i,.int j,c])=false:=by
       cases hs:z0F h w bs f (.tup [.int i,.int j,c]) with
       | false=>rfl
       | true=>exact (q1 (gen2 hs).1).elim
      rw [this]
      rw [decide_eq_false q1] at p1
      generalize ruD h w bs=ru at *
      generalize flD f=ff at *
      simp [ioOk,z0h,dTr,eIsi,isTy,bVar,eVar,z0O,ne3,i0,i1,z05,ios,ndup,z0x,evX,mkA,eOpF,eOpN,g1,g2,g3,putA,dAsg,gTp,z0i,z1F,z1w,p1,x0,x1,z0y,z0f]
  ·have:z0F h w bs f (.tup ds)=false:=by
    cases hs:z0F h w bs f (.tup ds) with
    | false=>rfl
    | true =>
     obtain ⟨i,j,l,e,_⟩:=z2x hs
     simp only [D.tup.injEq] at e
     subst e
     simp at h3
   rw [this]
   have h3':¬ (ds.length:Int)=3:=by omega
   simp [ioOk,z0h,dTr,eIsi,isTy,bVar,z0O,z60,h3',z0y,z0f]
 | _=>simp [ioOk,z0h,dTr,eIsi,isTy,bVar,z0y,z0f,z0F]
theorem zdO {h w:Nat} {bs:List (Nat×List Tx)} (R:Rul h w bs) {f:List Tx} (O:FO f) (x:D) (hx:Sx x):z0Z [.pure (ruD h w bs),.pure (flD f),.pure x]=some (.pure (.bl (z0F h w bs f x)),[.pure (ruD h w bs),.pure (flD f),.pure x]):=by
 rw [z0Z,z3h]
 exact ze4 z0M z0J z1P z1E z0C R O x hx zai (fun d hd hf=>r_lfg R d hd hf) (fun i F h h0 h1 hF=>zdR i F h h0 h1 hF)
  (fun l Ol F=>z5R R F (by have:=Ol.r1; omega) (by have:=Ol.c1; omega))
  (fun l i j r c h1 h2=>by rw [z1E,z4a]; exact zbz h1 h2 _ _ _ _)
open L2 DV
open PySem (sizeLine)
def lesT:D→List Tx
 | .tup [_,_,.tup ds]=>(z29 ds).getD []
 | _=>[]
def walk (h w:Nat) (bs:List (Nat×List Tx)):List Tx→List D→Option (List Tx)
 | f,[]=>some f
 | f,x :: r=>if z0F h w bs f x then walk h w bs (lesT x) r else none
def wayV (h w:Nat) (bs:List (Nat×List Tx)) (n:Nat) (f:List Tx):D→Bool
 | .tup ds=>match walk h w bs f ds with
  | some g=>eqD (flD g) (flD [[n]])
  | none=>false
 | _=>false
def SW:D→Prop
 | .tup ds=>ds.length≤1000∧∀ d ∈ ds,Sx d
 | _=>True
abbrev wayB (GX:DF):DS:=(dSeq (dIf (dNot (dTr (z05 GX [.val (eVar 0),.val (eVar 4),.val (eVar 5)]))) (dRet (eD (.bl false))) z0N) (dAsg (eOpF pIx 5 (bOf (eD (.int 2)))) (gNm [] 4)))
theorem z8X (GX:DF) {h w:Nat} {bs:List (Nat×List Tx)} (R:Rul h w bs) (gx:∀ f x,FO f→Sx x→GX [.pure (ruD h w bs),.pure (flD f),.pure x]=some (.pure (.bl (z0F h w bs f x)),[.pure (ruD h w bs),.pure (flD f),.pure x])) (t fl th:D) :
  ∀ (ds:List D) (f:List Tx) (o5:Option S),FO f→(∀ d ∈ ds,Sx d) →
   (walk h w bs f ds=none∧∃ δ',forL (gNm [] 5) (wayB GX) ds [some (.pure (ruD h w bs)),some (.pure t),some (.pure fl),some (.pure th),some (.pure (flD f)),o5] = .ok (.ret (.pure (.bl false))) δ') ∨
   ∃ g o,walk h w bs f ds=some g∧FO g∧forL (gNm [] 5) (wayB GX) ds [some (.pure (ruD h w bs)),some (.pure t),some (.pure fl),some (.pure th),some (.pure (flD f)),o5] = .ok .next [some (.pure (ruD h w bs)),some (.pure t),some (.pure fl),some (.pure th),some (.pure (flD g)),o]
 | [],f,o5,O,_=>.inr ⟨f,o5,rfl,O,rfl⟩
 | x :: r,f,o5,O,hs=>by
  have e:=gx f x O (hs x List.mem_cons_self)
  cases hx:z0F h w bs f x with
  | false =>
   rw [hx] at e
   refine .inl ⟨by simp [walk,hx],[some (.pure (ruD h w bs)),some (.pure t),some (.pure fl),some (.pure th),some (.pure (flD f)),some (.pure x)],?_⟩
   unfold forL
   generalize ruD h w bs=ru at *
   generalize flD f=ff at *
   simp [wayB,dTr,z05,ios,ndup,z0x,evX,eVar,mkA,e,putA]
  | true =>
   rw [hx] at e
   obtain ⟨i,j,l,rfl,hi,hj,hst⟩:=z2x hx
   have Ol:=(z6U R O hi hj hst).1
   have hl:lesT (.tup [.int i,.int j,flD l])=l:=by
    show (z29 (l.map D.str)).getD []=l
    rw [z31]; rfl
   have ix:=ix32 (.int i) (.int j) (flD l)
   have ef:∀ z,forL (gNm [] 5) (wayB GX) r [some (.pure (ruD h w bs)),some (.pure t),some (.pure fl),some (.pure th),some (.pure (flD l)),some (.pure (.tup [.int i,.int j,flD l]))]=z→forL (gNm [] 5) (wayB GX) (.tup [.int i,.int j,flD l] :: r) [some (.pure (ruD h w bs)),some (.pure t),some (.pure fl),some (.pure th),some (.pure (flD f)),o5]=z:=fun z hz=>by
    unfold forL
    rw [← hz]
    clear hz
    generalize ruD h w bs=ru at *
    generalize flD f=ff at *
    generalize D.tup [.int i,.int j,flD l]=xd at *
    simp [wayB,dTr,z05,ios,ndup,z0x,evX,eVar,mkA,e,putA,dAsg,eOpF,eOpN,bVar,ix]
   have hw:walk h w bs f (.tup [.int i,.int j,flD l] :: r)=walk h w bs l r:=by
    show (if z0F h w bs f _ then walk h w bs (lesT _) r else none)=_
    rw [hx,hl,if_pos rfl]
   rcases z8X GX R gx t fl th r l (some (.pure (.tup [.int i,.int j,flD l]))) Ol (fun d hd=>hs d (List.mem_cons_of_mem _ hd)) with ⟨h1,δ',h2⟩ | ⟨g,o,h1,h2,h3⟩
   ·exact .inl ⟨by rw [hw]; exact h1,δ',ef _ h2⟩
   ·exact .inr ⟨g,o,by rw [hw]; exact h1,h2,ef _ h3⟩
theorem ze3 (GX:DF) {h w:Nat} {bs:List (Nat×List Tx)} (R:Rul h w bs) (gx:∀ f x,FO f→Sx x→GX [.pure (ruD h w bs),.pure (flD f),.pure x]=some (.pure (.bl (z0F h w bs f x)),[.pure (ruD h w bs),.pure (flD f),.pure x])) (n:Nat) (f:List Tx) (O:FO f) (th:D) (ht:SW th) :
  gOf [] 6 (dSeq (dIf (dNot (dTr (eIsi "tuple" (bVar 3)))) (dRet (eD (.bl false))) z0N) (dSeq (dAsg (eVar 2) (gNm [] 4)) (dSeq (dFor (iSq (eVar 3)) (gNm [] 5) (dSeq (dIf (dNot (dTr (z05 GX [.val (eVar 0),.val (eVar 4),.val (eVar 5)]))) (dRet (eD (.bl false))) z0N) (dAsg (eOpF pIx 5 (bOf (eD (.int 2)))) (gNm [] 4)))) (dRet (eOpF pEq 4 (bOf (eTup (z09 (eVar 1) aNil)))))))) [.pure (ruD h w bs),.pure (.str [n]),.pure (flD f),.pure th]=some (.pure (.bl (wayV h w bs n f th)),[.pure (ruD h w bs),.pure (.str [n]),.pure (flD f),.pure th]):=by
 rw [z0T]
 cases th with
 | tup ds =>
  rcases z8X GX R gx (.str [n]) (flD f) (.tup ds) ds f none O ht.2 with ⟨h1,δ',h2⟩ | ⟨g,o,h1,h2,h3⟩
  ·have hv:wayV h w bs n f (.tup ds)=false:=by simp [wayV,h1]
   rw [hv]
   generalize ruD h w bs=ru at *
   generalize flD f=ff at *
   simp [ioOk,z0h,dTr,eIsi,isTy,bVar,dAsg,eVar,z3r]
   rw [h2]
   simp [z0y,z0f]
  ·have hv:wayV h w bs n f (.tup ds)=eqD (flD g) (flD [[n]]):=by simp [wayV,h1]
   have k:=zaB g [[n]]
   have kd:D.tup [.str [n]]=flD [[n]]:=rfl
   rw [hv]
   generalize eqD (flD g) (flD [[n]])=rb at *
   rw [← kd] at k
   generalize ruD h w bs=ru at *
   generalize flD f=ff at *
   generalize flD g=fg at *
   simp [ioOk,z0h,dTr,eIsi,isTy,bVar,dAsg,eVar,z3r]
   rw [h3]
   simp [eOpF,eOpN,eVar,bVar,k,z0y,z0f]
 | _=>simp [ioOk,z0h,dTr,eIsi,isTy,bVar,z0y,z0f,wayV]
theorem zdN {h w:Nat} {bs:List (Nat×List Tx)} (R:Rul h w bs) (n:Nat) (f:List Tx) (O:FO f) (th:D) (ht:SW th):z16 [.pure (ruD h w bs),.pure (.str [n]),.pure (flD f),.pure th]=some (.pure (.bl (wayV h w bs n f th)),[.pure (ruD h w bs),.pure (.str [n]),.pure (flD f),.pure th]):=by
 rw [z16,z4w]
 exact ze3 z0Y R (fun f x O hx=>zal R O x hx) n f O th ht
theorem r_due {h w:Nat} {bs:List (Nat×List Tx)} (R:Rul h w bs) (n:Nat) (f:List Tx) (O:FO f) (th:D) (ht:SW th):z1t [.pure (ruD h w bs),.pure (.str [n]),.pure (flD f),.pure th]=some (.pure (.bl (wayV h w bs n f th)),[.pure (ruD h w bs),.pure (.str [n]),.pure (flD f),.pure th]):=by
 rw [z1t,z3I]
 exact ze3 z0Z R (fun f x O hx=>zdO R O x hx) n f O th ht
theorem zcQ (GD GW:DF) (a b c d:D) (v:Bool) (g1:GD [.pure a,.pure b,.pure c,.pure d]=some (.pure (.bl v),[.pure a,.pure b,.pure c,.pure d])) (g2:GW [.pure a,.pure b,.pure c,.pure d]=some (.pure (.bl v),[.pure a,.pure b,.pure c,.pure d])) :
  gOf [] 6 (dSeq (dAsg (z05 GD [.val (eVar 0),.val (eVar 1),.val (eVar 2),.val (eVar 3)]) (gNm [] 4)) (dSeq (dAsg (z05 GW [.val (eVar 0),.val (eVar 1),.val (eVar 2),.val (eVar 3)]) (gNm [] 5)) (dRet (eAnd (eIsi "bool" (bVar 5)) (eAnd (eOpF pEq 5 (bVar 4)) (eOp pEq (z05 GW [.val (eVar 0),.val (eVar 1),.val (eVar 2),.val (eVar 3)]) (bVar 4))))))) [.pure a,.pure b,.pure c,.pure d]=some (.pure (.bl true),[.pure a,.pure b,.pure c,.pure d]):=by
 have e:pEq (.bl v) (.bl v)=some (.pure (.bl true)):=by cases v <;> rfl
 rw [z0T]
 simp [ioOk,z0h,dAsg,z05,ios,ndup,z0x,evX,eVar,mkA,g1,g2,putA,eAnd,eIsi,isTy,bVar,eOpF,eOpN,e,z0y,z0f]
theorem zcM {h w:Nat} {bs:List (Nat×List Tx)} (R:Rul h w bs) (n:Nat) (f:List Tx) (O:FO f) (th:D) (ht:SW th):z1b [.pure (ruD h w bs),.pure (.str [n]),.pure (flD f),.pure th]=some (.pure (.bl true),[.pure (ruD h w bs),.pure (.str [n]),.pure (flD f),.pure th]):=by
 rw [z1b,z44]
 exact zcQ z1t z16 _ _ _ _ _ (r_due R n f O th ht) (zdN R n f O th ht)
abbrev Cu:=Nat×Nat×List Tx
abbrev cuD (c:Cu):D:=.tup [.int c.1,.int c.2.1,flD c.2.2]
def plS (h w:Nat) (x:Nat×Nat) (c:Cu):Nat×Nat:=(x.1 * h + c.1,x.2 * w + c.2.1)
theorem z9E (ru:D) (h w:Nat) (h1:h≤4) (w1:w≤4) (x0:pIx ru (.int 0)=some (.pure (.int h))) (x1:pIx ru (.int 1)=some (.pure (.int w))) (ws:List Cu) :
  gOf [] 7 (B5_) [.pure ru,.pure (.tup (ws.map cuD))]=some (.pure (.tup [.int (ws.length:Int),.int ((ws.reverse.foldl (plS h w) (0,0)).1:Int),.int ((ws.reverse.foldl (plS h w) (0,0)).2:Int)]),[.pure ru,.pure (.tup (ws.map cuD))]):=by
 obtain ⟨j',e,_⟩:=z68 (g:=(gTp 3 (z0i (gNm [] 4) (z0i (gNm [] 5) (z0i (gNm [] 6) z1F))))) (b:=(dSeq (dAsg (eOp pAdd (eOpF z2g 2 (bOf (eOpF pIx 0 (bOf (eD (.int 0)))))) (bVar 4)) (gNm [] 2)) (dAsg (eOp pAdd (eOpF z2g 3 (bOf (eOpF pIx 0 (bOf (eD (.int 1)))))) (bVar 5)) (gNm [] 3)))) cuD (fun (x:Nat×Nat) (j:Option S×Option S×Option S)=>[some (.pure ru),some (.pure (.tup (ws.map cuD))),some (.pure (.int (x.1:Int))),some (.pure (.int (x.2:Int))),j.1,j.2.1,j.2.2]) (plS h w) (fun _=>True) (fun _=>True) (fun _ _ _ _=>trivial)
  (fun x j c _ _=>⟨_,(some (.pure (.int c.1)),some (.pure (.int c.2.1)),some (.pure (flD c.2.2))),rfl,by
   have m1:=mul_int x.1 h (by omega) (by omega)
   have m2:=mul_int x.2 w (by omega) (by omega)
   have a1:pAdd (.int ((x.1:Int) * (h:Int))) (.int c.1)=some (.pure (.int ((plS h w x c).1:Int))):=by
    show some (S.pure (.int ((x.1:Int) * (h:Int) + c.1)))=_
    simp [plS]
   have a2:pAdd (.int ((x.2:Int) * (w:Int))) (.int c.2.1)=some (.pure (.int ((plS h w x c).2:Int))):=by
    show some (S.pure (.int ((x.2:Int) * (w:Int) + c.2.1)))=_
    simp [plS]
   generalize D.int ((plS h w x c).1:Int)=y1 at *
   generalize D.int ((plS h w x c).2:Int)=y2 at *
   generalize D.int ((x.1:Int) * (h:Int))=y3 at *
   generalize D.int ((x.2:Int) * (w:Int))=y4 at *
   generalize D.tup (ws.map cuD)=wd at *
   simp [dAsg,eOpF,eOpN,bVar,x0,x1,m1,m2,a1,a2]⟩) ws.reverse (0,0) (none,none,none) trivial (fun _ _=>trivial)
 have hl:pLen (.tup (ws.map cuD))=some (.pure (.int (ws.length:Int))):=by rw [z0O]; simp
 rw [List.map_reverse] at e
 generalize ws.reverse.foldl (plS h w) (0,0)=pp at *
 rw [z0T]
 simp [ioOk,z0h,dAsg,z3r,bVar,z5S]
 simp only [Int.natCast_zero] at e
 rw [e]
 generalize D.int (ws.length:Int)=y1 at *
 simp [bVar,eVar,hl,z0y,z0f]
theorem z9C {h w:Nat} {bs:List (Nat×List Tx)} (R:Rul h w bs) (ws:List Cu):z1O [.pure (ruD h w bs),.pure (.tup (ws.map cuD))]=some (.pure (.tup [.int (ws.length:Int),.int ((ws.reverse.foldl (plS h w) (0,0)).1:Int),.int ((ws.reverse.foldl (plS h w) (0,0)).2:Int)]),[.pure (ruD h w bs),.pure (.tup (ws.map cuD))]):=by
 rw [z1O,z4v]
 exact z9E _ h w R.h1 R.w1 (z4k h w bs).1 (z4k h w bs).2.1 ws
open L2 DV
open PySem (sizeLine)
theorem z1h {a b:Int} (h:a=b):some (S.pure (.int a))=some (S.pure (.int b)):=by rw [h]
theorem z7k (a b:Nat):pMin (.int a) (.int b)=some (.pure (.int ((min a b:Nat):Int))):=by
 show some (S.pure (.int (if (b:Int) < a then (b:Int) else a)))=_
 congr 2
 split <;> congr 1 <;> omega
theorem za5 (GD:DF) (hd:z5j GD) (ru tt fl wy pl gr di dj:D) (h H i:Nat) (h0:0 < h) (h1:h≤4) (H0:0 < H) (H1:H≤8) (hi:i < h) (x0:pIx ru (.int 0)=some (.pure (.int h))) (lf:pLen fl=some (.pure (.int (H:Int)))) (lg:pLen gr=some (.pure (.int ((H * h:Nat):Int)))) {pd:D} (hpd:Pen pd) (o6 o10 o11 o12:Option S) :
  ∃ (pd':D) (k:Nat) (o11':Option S),(dIf (dTr (eOp pEq (eC1 pLen (bVar 3)) (bOf (eD (.int 1))))) (dAsg (eOp pAdd (eD (.int 1)) (bOf (z05 GD [.io 0,.val (eMin (eD (.int 8)) (eOp pSub (eOpF pIx 1 (bOf (eD (.int 0)))) (bVar 8)))]))) (gNm [0] 10)) (dSeq (dAsg (eOp pSub (eOp pAdd (eOp z2g (eOp pSub (eC1 pLen (bVar 3)) (bOf (eD (.int 1)))) (bOf (eOpF pIx 1 (bOf (eD (.int 0)))))) (bOf (eD (.int 1)))) (bVar 8)) (gNm [0] 11)) (dAsg (eOpF pAdd 11 (bOf (z05 GD [.io 0,.val (eMax (eD (.int 1)) (eOp pAdd (eOp pSub (eMin (eD (.int 8)) (eOp pSub (eC1 pLen (bVar 7)) (bVar 8))) (bVar 11)) (bOf (eD (.int 1)))))]))) (gNm [0] 10)))) [some (.own pd),some (.pure ru),some (.pure tt),some (.pure fl),some (.pure wy),some (.pure pl),o6,some (.pure gr),some (.pure (.int i)),some (.pure dj),o10,o11,o12] = .ok .next [some (.own pd'),some (.pure ru),some (.pure tt),some (.pure fl),some (.pure wy),some (.pure pl),o6,some (.pure gr),some (.pure (.int i)),some (.pure dj),some (.pure (.int (k:Int))),o11',o12]∧Pen pd'∧0 < k∧i + k≤H * h∧(i + k - 1) / h + 1=H:=by
 by_cases c1:H=1
 ·subst c1
  obtain ⟨d,pd',e,l,p⟩:=hd pd (min 8 (h - i)) hpd (by omega) (by omega)
  refine ⟨pd',1 + d,o11,?_,p,by omega,by omega,?_⟩
  ·have q1:pEq (.int ((1:Nat):Int)) (.int 1)=some (.pure (.bl true)):=rfl
   have s1:pSub (.int h) (.int i)=some (.pure (.int ((h - i:Nat):Int))):=by rw [sub_int]; exact z1h (by omega)
   have m1:pMin (.int 8) (.int ((h - i:Nat):Int))=some (.pure (.int ((min 8 (h - i):Nat):Int))):=z7k 8 (h - i)
   have a1:pAdd (.int 1) (.int d)=some (.pure (.int ((1 + d:Nat):Int))):=by rw [add_int]; exact z1h (by omega)
   generalize min 8 (h - i)=z1 at *
   generalize h - i=z2 at *
   generalize 1 + d=z3 at *
   generalize D.int ((1:Nat):Int)=z4 at *
   simp [dTr,bVar,lf,lg,q1,dAsg,eMin,eOpF,eOpN,x0,s1,m1,z05,ios,ndup,z0x,evX,mkA,e,putA,a1]
  ·rw [Nat.div_eq_of_lt (by omega)]
 ·obtain ⟨H',rfl⟩:∃ H',H=H' + 2:=⟨H - 2,by omega⟩
  have m0:(H' + 2 - 1) * h=H' * h + h:=by rw [show H' + 2 - 1=H' + 1 by omega,Nat.succ_mul]
  have m2:(H' + 2) * h=H' * h + h + h:=by rw [Nat.add_mul,Nat.two_mul,Nat.add_assoc]
  have hlim:H' * h≤6 * 4:=Nat.mul_le_mul (by omega) h1
  -- first
  obtain ⟨d,pd',e,l,p⟩:=hd pd (max 1 (min 8 ((H' + 2) * h - i) + 1 - (H' * h + h + 1 - i))) hpd (by omega) (by omega)
  refine ⟨pd',(H' * h + h + 1 - i) + d,some (.pure (.int ((H' * h + h + 1 - i:Nat):Int))),?_,p,by omega,by omega,?_⟩
  ·have q1:pEq (.int ((H' + 2:Nat):Int)) (.int 1)=some (.pure (.bl false)):=by
    rw [z9q]; congr 3
   have s1:pSub (.int ((H' + 2:Nat):Int)) (.int 1)=some (.pure (.int ((H' + 1:Nat):Int))):=by rw [sub_int]; exact z1h (by omega)
   have s2:z2g (.int ((H' + 1:Nat):Int)) (.int h)=some (.pure (.int ((H' * h + h:Nat):Int))):=by
    rw [mul_int _ _ (by omega) (by omega)]; exact z1h (by rw [← Int.natCast_mul,Nat.succ_mul])
   have s3:pAdd (.int ((H' * h + h:Nat):Int)) (.int 1)=some (.pure (.int ((H' * h + h + 1:Nat):Int))):=by rw [add_int]; exact z1h (by omega)
   have s4:pSub (.int ((H' * h + h + 1:Nat):Int)) (.int i)=some (.pure (.int ((H' * h + h + 1 - i:Nat):Int))):=by rw [sub_int]; exact z1h (by omega)
   have s5:pSub (.int (((H' + 2) * h:Nat):Int)) (.int i)=some (.pure (.int (((H' + 2) * h - i:Nat):Int))):=by rw [sub_int]; exact z1h (by omega)
   have s6:pMin (.int 8) (.int (((H' + 2) * h - i:Nat):Int))=some (.pure (.int ((min 8 ((H' + 2) * h - i):Nat):Int))):=z7k 8 _
   have s7:pSub (.int ((min 8 ((H' + 2) * h - i):Nat):Int)) (.int ((H' * h + h + 1 - i:Nat):Int))=some (.pure (.int (((min 8 ((H' + 2) * h - i):Nat):Int) - ((H' * h + h + 1 - i:Nat):Int)))):=rfl
   have s8:pAdd (.int (((min 8 ((H' + 2) * h - i):Nat):Int) - ((H' * h + h + 1 - i:Nat):Int))) (.int 1)=some (.pure (.int (((min 8 ((H' + 2) * h - i):Nat):Int) - ((H' * h + h + 1 - i:Nat):Int) + 1))):=rfl
   have s9:pMax (.int 1) (.int (((min 8 ((H' + 2) * h - i):Nat):Int) - ((H' * h + h + 1 - i:Nat):Int) + 1))=some (.pure (.int ((max 1 (min 8 ((H' + 2) * h - i) + 1 - (H' * h + h + 1 - i)):Nat):Int))):=by
    show some (S.pure (.int (if (((min 8 ((H' + 2) * h - i):Nat):Int) - ((H' * h + h + 1 - i:Nat):Int) + 1) > 1 then (((min 8 ((H' + 2) * h - i):Nat):Int) - ((H' * h + h + 1 - i:Nat):Int) + 1) else 1)))=_
    exact z1h (by split <;> omega)
   have s10:pAdd (.int ((H' * h + h + 1 - i:Nat):Int)) (.int d)=some (.pure (.int ((H' * h + h + 1 - i + d:Nat):Int))):=by rw [add_int]; exact z1h (by omega)
   clear l hlim m0 m2 H1 H0 c1 hpd p
   generalize D.int ((max 1 (min 8 ((H' + 2) * h - i) + 1 - (H' * h + h + 1 - i)):Nat):Int)=z1 at *
   generalize D.int (((min 8 ((H' + 2) * h - i):Nat):Int) - ((H' * h + h + 1 - i:Nat):Int) + 1)=z2 at *
   generalize D.int (((min 8 ((H' + 2) * h - i):Nat):Int) - ((H' * h + h + 1 - i:Nat):Int))=z3 at *
   generalize D.int ((min 8 ((H' + 2) * h - i):Nat):Int)=z4 at *
   generalize D.int (((H' + 2) * h - i:Nat):Int)=z5 at *
   generalize D.int (((H' + 2) * h:Nat):Int)=z6 at *
   generalize D.int ((H' * h + h + 1 - i + d:Nat):Int)=z7 at *
   generalize D.int ((H' * h + h + 1 - i:Nat):Int)=z8 at *
   generalize D.int ((H' * h + h + 1:Nat):Int)=z9 at *
   generalize D.int ((H' * h + h:Nat):Int)=z10 at *
   generalize D.int ((H' + 1:Nat):Int)=z11 at *
   generalize D.int ((H' + 2:Nat):Int)=z12 at *
   simp [dTr,bVar,eVar,lf,lg,q1,dAsg,eMin,eMax,eOpF,eOpN,x0,s1,s2,s3,s4,s5,s6,s7,s8,s9,s10,z05,ios,ndup,z0x,evX,mkA,e,putA]
  ·have hlo:(H' + 1) * h≤i + (H' * h + h + 1 - i + d) - 1:=by rw [Nat.succ_mul]; omega
   have hhi:i + (H' * h + h + 1 - i + d) - 1 < (H' + 2) * h:=by omega
   have h2:(i + (H' * h + h + 1 - i + d) - 1) / h < H' + 2:=(Nat.div_lt_iff_lt_mul h0).mpr hhi
   have h3:H' + 1≤(i + (H' * h + h + 1 - i + d) - 1) / h:=(Nat.le_div_iff_mul_le h0).mpr hlo
   omega
theorem za6 (GD:DF) (hd:z5j GD) (ru tt fl wy pl gr di dj:D) (h H i:Nat) (h0:0 < h) (h1:h≤4) (H0:0 < H) (H1:H≤8) (hi:i < h) (x0:pIx ru (.int 1)=some (.pure (.int h))) (fr gr0:D) (f0:pIx fl (.int 0)=some (.pure fr)) (g0:pIx gr (.int 0)=some (.pure gr0)) (lf:pLen fr=some (.pure (.int (H:Int)))) (lg:pLen gr0=some (.pure (.int ((H * h:Nat):Int)))) {pd:D} (hpd:Pen pd) (o6 o10 o11 o12:Option S) :
  ∃ (pd':D) (k:Nat) (o11':Option S),(dIf (dTr (eOp pEq (eC1 pLen (bOf (eOpF pIx 3 (bOf (eD (.int 0)))))) (bOf (eD (.int 1))))) (dAsg (eOp pAdd (eD (.int 1)) (bOf (z05 GD [.io 0,.val (eMin (eD (.int 8)) (eOp pSub (eOpF pIx 1 (bOf (eD (.int 1)))) (bVar 9)))]))) (gNm [0] 12)) (dSeq (dAsg (eOp pSub (eOp pAdd (eOp z2g (eOp pSub (eC1 pLen (bOf (eOpF pIx 3 (bOf (eD (.int 0)))))) (bOf (eD (.int 1)))) (bOf (eOpF pIx 1 (bOf (eD (.int 1)))))) (bOf (eD (.int 1)))) (bVar 9)) (gNm [0] 11)) (dAsg (eOpF pAdd 11 (bOf (z05 GD [.io 0,.val (eMax (eD (.int 1)) (eOp pAdd (eOp pSub (eMin (eD (.int 8)) (eOp pSub (eC1 pLen (bOf (eOpF pIx 7 (bOf (eD (.int 0)))))) (bVar 9))) (bVar 11)) (bOf (eD (.int 1)))))]))) (gNm [0] 12)))) [some (.own pd),some (.pure ru),some (.pure tt),some (.pure fl),some (.pure wy),some (.pure pl),o6,some (.pure gr),some (.pure di),some (.pure (.int i)),o10,o11,o12] = .ok .next [some (.own pd'),some (.pure ru),some (.pure tt),some (.pure fl),some (.pure wy),some (.pure pl),o6,some (.pure gr),some (.pure di),some (.pure (.int i)),o10,o11',some (.pure (.int (k:Int)))]∧Pen pd'∧0 < k∧i + k≤H * h∧(i + k - 1) / h + 1=H:=by
 by_cases c1:H=1
 ·subst c1
  obtain ⟨d,pd',e,l,p⟩:=hd pd (min 8 (h - i)) hpd (by omega) (by omega)
  refine ⟨pd',1 + d,o11,?_,p,by omega,by omega,?_⟩
  ·have q1:pEq (.int ((1:Nat):Int)) (.int 1)=some (.pure (.bl true)):=rfl
   have s1:pSub (.int h) (.int i)=some (.pure (.int ((h - i:Nat):Int))):=by rw [sub_int]; exact z1h (by omega)
   have m1:pMin (.int 8) (.int ((h - i:Nat):Int))=some (.pure (.int ((min 8 (h - i):Nat):Int))):=z7k 8 (h - i)
   have a1:pAdd (.int 1) (.int d)=some (.pure (.int ((1 + d:Nat):Int))):=by rw [add_int]; exact z1h (by omega)
   generalize min 8 (h - i)=z1 at *
   generalize h - i=z2 at *
   generalize 1 + d=z3 at *
   generalize D.int ((1:Nat):Int)=z4 at *
   simp [dTr,bVar,f0,g0,lf,lg,q1,dAsg,eMin,eOpF,eOpN,x0,s1,m1,z05,ios,ndup,z0x,evX,mkA,e,putA,a1]
  ·rw [Nat.div_eq_of_lt (by omega)]
 ·obtain ⟨H',rfl⟩:∃ H',H=H' + 2:=⟨H - 2,by omega⟩
  have m0:(H' + 2 - 1) * h=H' * h + h:=by rw [show H' + 2 - 1=H' + 1 by omega,Nat.succ_mul]
  have m2:(H' + 2) * h=H' * h + h + h:=by rw [Nat.add_mul,Nat.two_mul,Nat.add_assoc]
  have hlim:H' * h≤6 * 4:=Nat.mul_le_mul (by omega) h1
  -- first
  obtain ⟨d,pd',e,l,p⟩:=hd pd (max 1 (min 8 ((H' + 2) * h - i) + 1 - (H' * h + h + 1 - i))) hpd (by omega) (by omega)
  refine ⟨pd',(H' * h + h + 1 - i) + d,some (.pure (.int ((H' * h + h + 1 - i:Nat):Int))),?_,p,by omega,by omega,?_⟩
  ·have q1:pEq (.int ((H' + 2:Nat):Int)) (.int 1)=some (.pure (.bl false)):=by
    rw [z9q]; congr 3
   have s1:pSub (.int ((H' + 2:Nat):Int)) (.int 1)=some (.pure (.int ((H' + 1:Nat):Int))):=by rw [sub_int]; exact z1h (by omega)
   have s2:z2g (.int ((H' + 1:Nat):Int)) (.int h)=some (.pure (.int ((H' * h + h:Nat):Int))):=by
    rw [mul_int _ _ (by omega) (by omega)]; exact z1h (by rw [← Int.natCast_mul,Nat.succ_mul])
   have s3:pAdd (.int ((H' * h + h:Nat):Int)) (.int 1)=some (.pure (.int ((H' * h + h + 1:Nat):Int))):=by rw [add_int]; exact z1h (by omega)
   have s4:pSub (.int ((H' * h + h + 1:Nat):Int)) (.int i)=some (.pure (.int ((H' * h + h + 1 - i:Nat):Int))):=by rw [sub_int]; exact z1h (by omega)
   have s5:pSub (.int (((H' + 2) * h:Nat):Int)) (.int i)=some (.pure (.int (((H' + 2) * h - i:Nat):Int))):=by rw [sub_int]; exact z1h (by omega)
   have s6:pMin (.int 8) (.int (((H' + 2) * h - i:Nat):Int))=some (.pure (.int ((min 8 ((H' + 2) * h - i):Nat):Int))):=z7k 8 _
   have s7:pSub (.int ((min 8 ((H' + 2) * h - i):Nat):Int)) (.int ((H' * h + h + 1 - i:Nat):Int))=some (.pure (.int (((min 8 ((H' + 2) * h - i):Nat):Int) - ((H' * h + h + 1 - i:Nat):Int)))):=rfl
   have s8:pAdd (.int (((min 8 ((H' + 2) * h - i):Nat):Int) - ((H' * h + h + 1 - i:Nat):Int))) (.int 1)=some (.pure (.int (((min 8 ((H' + 2) * h - i):Nat):Int) - ((H' * h + h + 1 - i:Nat):Int) + 1))):=rfl
   have s9:pMax (.int 1) (.int (((min 8 ((H' + 2) * h - i):Nat):Int) - ((H' * h + h + 1 - i:Nat):Int) + 1))=some (.pure (.int ((max 1 (min 8 ((H' + 2) * h - i) + 1 - (H' * h + h + 1 - i)):Nat):Int))):=by
    show some (S.pure (.int (if (((min 8 ((H' + 2) * h - i):Nat):Int) - ((H' * h + h + 1 - i:Nat):Int) + 1) > 1 then (((min 8 ((H' + 2) * h - i):Nat):Int) - ((H' * h + h + 1 - i:Nat):Int) + 1) else 1)))=_
    exact z1h (by split <;> omega)
   have s10:pAdd (.int ((H' * h + h + 1 - i:Nat):Int)) (.int d)=some (.pure (.int ((H' * h + h + 1 - i + d:Nat):Int))):=by rw [add_int]; exact z1h (by omega)
   clear l hlim m0 m2 H1 H0 c1 hpd p
   generalize D.int ((max 1 (min 8 ((H' + 2) * h - i) + 1 - (H' * h + h + 1 - i)):Nat):Int)=z1 at *
   generalize D.int (((min 8 ((H' + 2) * h - i):Nat):Int) - ((H' * h + h + 1 - i:Nat):Int) + 1)=z2 at *
   generalize D.int (((min 8 ((H' + 2) * h - i):Nat):Int) - ((H' * h + h + 1 - i:Nat):Int))=z3 at *
   generalize D.int ((min 8 ((H' + 2) * h - i):Nat):Int)=z4 at *
   generalize D.int (((H' + 2) * h - i:Nat):Int)=z5 at *
   generalize D.int (((H' + 2) * h:Nat):Int)=z6 at *
   generalize D.int ((H' * h + h + 1 - i + d:Nat):Int)=z7 at *
   generalize D.int ((H' * h + h + 1 - i:Nat):Int)=z8 at *
   generalize D.int ((H' * h + h + 1:Nat):Int)=z9 at *
   generalize D.int ((H' * h + h:Nat):Int)=z10 at *
   generalize D.int ((H' + 1:Nat):Int)=z11 at *
   generalize D.int ((H' + 2:Nat):Int)=z12 at *
   simp [dTr,bVar,eVar,f0,g0,lf,lg,q1,dAsg,eMin,eMax,eOpF,eOpN,x0,s1,s2,s3,s4,s5,s6,s7,s8,s9,s10,z05,ios,ndup,z0x,evX,mkA,e,putA]
  ·have hlo:(H' + 1) * h≤i + (H' * h + h + 1 - i + d) - 1:=by rw [Nat.succ_mul]; omega
   have hhi:i + (H' * h + h + 1 - i + d) - 1 < (H' + 2) * h:=by omega
   have h2:(i + (H' * h + h + 1 - i + d) - 1) / h < H' + 2:=(Nat.div_lt_iff_lt_mul h0).mpr hhi
   have h3:H' + 1≤(i + (H' * h + h + 1 - i + d) - 1) / h:=(Nat.le_div_iff_mul_le h0).mpr hlo
   omega
open L2 DV
open PySem (sizeLine)
theorem z0V {a b:DS} {δ δ1:Dl} {x:Rs Fl} (h:a δ = .ok .next δ1) (h2:b δ1=x):dSeq a b δ=x:=by
 rw [zdl,h]
 simpa using h2
theorem z8g (f:Nat→Nat→Nat) {A C:Nat} (h0:0 < A):(grid f A C).headD []=(List.range C).map (f 0):=by
 obtain ⟨A',rfl⟩:∃ A',A=A' + 1:=⟨A - 1,by omega⟩
 simp [grid,List.range_succ_eq_map]
theorem z7o (f:Nat→Nat→Nat) {A C:Nat} (h0:0 < A) (h1:A≤64) (c0:0 < C) (c1:C≤64):FO (grid f A C)∧(grid f A C).length=A∧((grid f A C).headD []).length=C:=by
 have hh:((grid f A C).headD []).length=C:=by rw [z8g f h0]; simp
 have hl:=(z48 f A C).1
 exact ⟨⟨by rw [hl]; exact h0,by rw [hl]; exact h1,by rw [hh]; exact c0,by rw [hh]; exact c1,fun r hr=>by rw [hh]; exact (z48 f A C).2 r hr⟩,hl,hh⟩
theorem zaY {bs:List (Nat×List Tx)} (f:Nat→Nat→Nat) {A C:Nat} (h0:0 < A) (c0:0 < C) (hf:∀ i j,f i j ∈ bs.map (·.1)):z3L (bs.map (·.1)) (grid f A C)=true:=by
 have hh:((grid f A C).headD []).length=C:=by rw [z8g f h0]; simp
 unfold z3L
 rw [hh]
 simp only [Bool.and_eq_true,Bool.not_eq_true',List.all_eq_true,beq_iff_eq,beq_eq_false_iff_ne,ne_eq]
 refine ⟨⟨⟨?_,fun r hr=>(z48 f A C).2 r hr⟩,by omega⟩,fun n hn=>?_⟩
 ·have hl:=(z48 f A C).1
  cases e:grid f A C with
  | nil=>rw [e] at hl; simp at hl; omega
  | cons _ _=>rfl
 ·obtain ⟨r,hr,hn⟩:=List.mem_flatten.mp hn
  have:=(z7p (bs:=bs) A C hf).tl r hr n hn
  simpa using this
structure Bt (h w:Nat) (bs:List (Nat×List Tx)) (n:Nat) (f:List Tx) (ws:List Cu) (t r c A C:Nat):Prop where
 fl:f=grid (fun a b=>far h w bs n t (r + a) (c + b)) A C
 a0:0 < A
 a1:A≤8
 c0:0 < C
 c1:C≤8
 rr:r + A≤h ^ t
 cc:c + C≤w ^ t
 tl:ws.length=t
 wk:walk h w bs f (ws.map cuD)=some [[n]]
 pl:ws.reverse.foldl (plS h w) (0,0)=(r,c)
 le:∀ x ∈ ws,x.1 < h∧x.2.1 < w∧FO x.2.2
theorem zdt {h w n:Nat} {bs:List (Nat×List Tx)}:Bt h w bs n [[n]] [] 0 0 0 1 1 where
 fl:=by simp [grid,far]
 a0:=by decide
 a1:=by decide
 c0:=by decide
 c1:=by decide
 rr:=by simp
 cc:=by simp
 tl:=rfl
 wk:=rfl
 pl:=rfl
 le:=by simp
theorem zcl {h:Nat} (h0:0 < h) (r x:Nat):(r * h + x) / h=r + x / h∧(r * h + x) % h=x % h:=by
 constructor
 ·rw [Nat.add_comm,Nat.add_mul_div_right _ _ h0,Nat.add_comm]
 ·rw [Nat.add_comm,Nat.add_mul_mod_self_right]
theorem zdu {h w n:Nat} {bs:List (Nat×List Tx)} (R:Rul h w bs) (hn:n ∈ bs.map (·.1)) {f:List Tx} {ws:List Cu} {t r c A C:Nat} (B:Bt h w bs n f ws t r c A C) {i j H W:Nat} (hi:i < h) (hj:j < w) (hH0:0 < H) (hH:i + H≤A * h) (hH2:(i + H - 1) / h + 1=A) (hH8:H≤8) (hW0:0 < W) (hW:j + W≤C * w) (hW2:(j + W - 1) / w + 1=C) (hW8:W≤8) :
  Bt h w bs n (cut (lay h bs f) i j H W) ((i,j,f) :: ws) (t + 1) (r * h + i) (c * w + j) H W:=by
 have h0:=R.h0
 have w0:=R.w0
 have hlay:lay h bs f=grid (fun a b=>nt bs (far h w bs n t (r + a / h) (c + b / w)) (a % h) (b % w)) (A * h) (C * w):=by
  rw [B.fl]
  exact z7l R _ A C fun i j=>z4s R hn t _ _
 have hcut:cut (lay h bs f) i j H W=grid (fun a b=>far h w bs n (t + 1) (r * h + i + a) (c * w + j + b)) H W:=by
  rw [hlay,z9t _ hH hW]
  refine z6L fun a _ b _=>?_
  have s1:=zcl h0 r (i + a)
  have s2:=zcl w0 c (j + b)
  rw [far,Nat.add_assoc (r * h),Nat.add_assoc (c * w),s1.1,s1.2,s2.1,s2.2]
 have Ff:=B.fl
 have a0:=B.a0
 have a1:=B.a1
 have c0:=B.c0
 have c1:=B.c1
 obtain ⟨Of,lf,hf⟩:=z7o (fun a b=>far h w bs n t (r + a) (c + b)) (A:=A) (C:=C) a0 (by omega) c0 (by omega)
 rw [← Ff] at Of lf hf
 obtain ⟨Og,lg,hg⟩:=z7o (fun a b=>far h w bs n (t + 1) (r * h + i + a) (c * w + j + b)) (A:=H) (C:=W) hH0 (by omega) hW0 (by omega)
 rw [← hcut] at Og lg hg
 refine ⟨hcut,hH0,hH8,hW0,hW8,?_,?_,by simp [B.tl],?_,?_,?_⟩
 ·have:=Nat.mul_le_mul_right h B.rr
  rw [Nat.add_mul] at this
  rw [Nat.pow_succ]
  omega
 ·have:=Nat.mul_le_mul_right w B.cc
  rw [Nat.add_mul] at this
  rw [Nat.pow_succ]
  omega
 ·have hl:lesT (cuD (i,j,f))=f:=by
   show (z29 (f.map D.str)).getD []=f
   rw [z31]; rfl
  have hs:z0F h w bs (cut (lay h bs f) i j H W) (cuD (i,j,f))=true:=by
   rw [show cuD (i,j,f) = .tup [.int i,.int j,flD f] from rfl,z5I i j hi hj f]
   unfold z6V
   rw [lg,hg,lf,hf,Int.toNat_natCast,Int.toNat_natCast,hH2,hW2]
   have g1:z3L (bs.map (·.1)) f=true:=by rw [Ff]; exact zaY _ a0 c0 fun i j=>z4s R hn t _ _
   rw [g1,z49 (z3W 49 _)]
   simp
  show (if z0F h w bs _ (cuD (i,j,f)) then walk h w bs (lesT (cuD (i,j,f))) (ws.map cuD) else none)=_
  rw [hs,hl,if_pos rfl]
  exact B.wk
 ·rw [List.reverse_cons,List.foldl_append,B.pl]
  rfl
 ·intro x hx
  rcases List.mem_cons.mp hx with rfl | hx
  ·exact ⟨hi,hj,Of⟩
  ·exact B.le x hx
abbrev B6_ (GC:DF):DS:=dSeq (dAsg (z05 GC [.val (eVar 7),.val (eVar 8),.val (eVar 9),.val (eVar 10),.val (eVar 12)]) (gNm [0] 3)) (dAsg (eTup (z09 (eOp pAdd (eOpF pIx 5 (bOf (eD (.int 0)))) (bOf (eD (.int 1)))) (z09 (eOp pAdd (eOp z2g (eOpF pIx 5 (bOf (eD (.int 1)))) (bOf (eOpF pIx 1 (bOf (eD (.int 0)))))) (bVar 8)) (z09 (eOp pAdd (eOp z2g (eOpF pIx 5 (bOf (eD (.int 2)))) (bOf (eOpF pIx 1 (bOf (eD (.int 1)))))) (bVar 9)) aNil)))) (gNm [0] 5))
abbrev B1_ (GC GD GG:DF):DS:=dSeq (dAsg (z05 GG [.val (eVar 1),.val (eVar 3)]) (gNm [0] 7)) (dSeq (dAsg (z05 GD [.io 0,.val (eOpF pIx 1 (bOf (eD (.int 0))))]) (gNm [0] 8)) (dSeq (dAsg (z05 GD [.io 0,.val (eOpF pIx 1 (bOf (eD (.int 1))))]) (gNm [0] 9)) (dSeq (dIf (dTr (eOp pEq (eC1 pLen (bVar 3)) (bOf (eD (.int 1))))) (dAsg (eOp pAdd (eD (.int 1)) (bOf (z05 GD [.io 0,.val (eMin (eD (.int 8)) (eOp pSub (eOpF pIx 1 (bOf (eD (.int 0)))) (bVar 8)))]))) (gNm [0] 10)) (dSeq (dAsg (eOp pSub (eOp pAdd (eOp z2g (eOp pSub (eC1 pLen (bVar 3)) (bOf (eD (.int 1)))) (bOf (eOpF pIx 1 (bOf (eD (.int 0)))))) (bOf (eD (.int 1)))) (bVar 8)) (gNm [0] 11)) (dAsg (eOpF pAdd 11 (bOf (z05 GD [.io 0,.val (eMax (eD (.int 1)) (eOp pAdd (eOp pSub (eMin (eD (.int 8)) (eOp pSub (eC1 pLen (bVar 7)) (bVar 8))) (bVar 11)) (bOf (eD (.int 1)))))]))) (gNm [0] 10)))) (dSeq (dIf (dTr (eOp pEq (eC1 pLen (bOf (eOpF pIx 3 (bOf (eD (.int 0)))))) (bOf (eD (.int 1))))) (dAsg (eOp pAdd (eD (.int 1)) (bOf (z05 GD [.io 0,.val (eMin (eD (.int 8)) (eOp pSub (eOpF pIx 1 (bOf (eD (.int 1)))) (bVar 9)))]))) (gNm [0] 12)) (dSeq (dAsg (eOp pSub (eOp pAdd (eOp z2g (eOp pSub (eC1 pLen (bOf (eOpF pIx 3 (bOf (eD (.int 0)))))) (bOf (eD (.int 1)))) (bOf (eOpF pIx 1 (bOf (eD (.int 1)))))) (bOf (eD (.int 1)))) (bVar 9)) (gNm [0] 11)) (dAsg (eOpF pAdd 11 (bOf (z05 GD [.io 0,.val (eMax (eD (.int 1)) (eOp pAdd (eOp pSub (eMin (eD (.int 8)) (eOp pSub (eC1 pLen (bOf (eOpF pIx 7 (bOf (eD (.int 0)))))) (bVar 9))) (bVar 11)) (bOf (eD (.int 1)))))]))) (gNm [0] 12)))) (dIf (dAnd (dTr (eOpF pLt 10 (bOf (eD (.int 9))))) (dTr (eOpF pLt 12 (bOf (eD (.int 9)))))) (dSeq (dAsg (eOp pAdd (eTup (z09 (eTup (z09 (eVar 8) (z09 (eVar 9) (z09 (eVar 3) aNil)))) aNil)) (bVar 4)) (gNm [0] 4)) (B6_ GC)) z0N)))))
theorem zcT (GD GG GC:DF) (hd:z5j GD) {h w n:Nat} {bs:List (Nat×List Tx)} (R:Rul h w bs) (hn:n ∈ bs.map (·.1)) {pd:D} (hpd:Pen pd)
  (gg:∀ l:List Tx,FO l→Fl2 bs l.length (l.headD []).length l→GG [.pure (ruD h w bs),.pure (flD l)]=some (.pure (flD (lay h bs l)),[.pure (ruD h w bs),.pure (flD l)]))
  (gc:∀ (l:List Tx) (i j r c:Nat),l.length≤100000→(∀ r ∈ l,r.length≤100000)→GC [.pure (flD l),.pure (.int i),.pure (.int j),.pure (.int r),.pure (.int c)]=some (.pure (flD (cut l i j r c)),[.pure (flD l),.pure (.int i),.pure (.int j),.pure (.int r),.pure (.int c)])) :
  ∃ (f:List Tx) (ws:List Cu) (t r c A C:Nat) (pd':D),gOf [0] 13 (dSeq (dAsg (eTup (z09 (eVar 2) aNil)) (gNm [0] 3)) (dSeq (dAsg (eTup aNil) (gNm [0] 4)) (dSeq (dAsg (eD (.tup [.int 0,.int 0,.int 0])) (gNm [0] 5)) (dSeq (dFor (z0S (z05 GD [.io 0,.val (eD (.int 6))])) (gNm [0] 6) (B1_ GC GD GG)) (dRet (eTup (z09 (eVar 3) (z09 (eVar 4) (z09 (eVar 5) aNil))))))))) [.own pd,.pure (ruD h w bs),.pure (.str [n])]=some (.pure (.tup [flD f,.tup (ws.map cuD),.tup [.int t,.int r,.int c]]),[.own pd',.pure (ruD h w bs),.pure (.str [n])])∧Bt h w bs n f ws t r c A C∧t≤5∧Pen pd':=by
 have h0:=R.h0
 have w0:=R.w0
 have h1:=R.h1
 have w1:=R.w1
 obtain ⟨x0,x1,_⟩:=z4k h w bs
 obtain ⟨m,pd1,e1,l1,p1⟩:=hd pd 6 hpd (by decide) (by decide)
 have e1':GD [.own pd,.pure (.int 6)]=some (.pure (.int m),[.own pd1,.pure (.int 6)]):=e1
 obtain ⟨δ',e,pd2,f,ws,t,r,c,A,C,o6,o7,o8,o9,o10,o11,o12,hp2,B,ht,rfl⟩:=z2d (g:=gNm [0] 6) (b:=(B1_ GC GD GG)) (fun k δ=>∃ (pd:D) (f:List Tx) (ws:List Cu) (t r c A C:Nat) (o6 o7 o8 o9 o10 o11 o12:Option S),Pen pd∧Bt h w bs n f ws t r c A C∧t≤k∧δ=[some (.own pd),some (.pure (ruD h w bs)),some (.pure (.str [n])),some (.pure (flD f)),some (.pure (.tup (ws.map cuD))),some (.pure (.tup [.int t,.int r,.int c])),o6,o7,o8,o9,o10,o11,o12]) (z1g 0 m) 0 [some (.own pd1),some (.pure (ruD h w bs)),some (.pure (.str [n])),some (.pure (flD [[n]])),some (.pure (.tup [])),some (.pure (.tup [.int 0,.int 0,.int 0])),none,none,none,none,none,none,none] ⟨pd1,[[n]],[],0,0,0,1,1,none,none,none,none,none,none,none,p1,zdt,Nat.le_refl _,rfl⟩ (fun k d δ hdd ⟨pd,f,ws,t,r,c,A,C,o6,o7,o8,o9,o10,o11,o12,hpd,B,ht,e⟩=>by
  subst e
  obtain ⟨hk,rfl⟩:=z1H hdd
  rw [Nat.zero_add] at ht ⊢
  obtain ⟨i,d1,f1,li,q1⟩:=hd pd h hpd h0 (by omega)
  obtain ⟨j,d2,f2,lj,q2⟩:=hd d1 w q1 w0 (by omega)
  have a0:=B.a0
  have a1:=B.a1
  have c0:=B.c0
  have c1:=B.c1
  obtain ⟨Of,lf,hf⟩:=z7o (fun a b=>far h w bs n t (r + a) (c + b)) (A:=A) (C:=C) a0 (by omega) c0 (by omega)
  have F2:=z7p (bs:=bs) (f:=fun a b=>far h w bs n t (r + a) (c + b)) A C fun i j=>z4s R hn t _ _
  rw [← B.fl] at Of lf hf F2
  obtain ⟨y1,y2,y3⟩:=Of.head
  rw [lf] at y3
  rw [hf] at y2
  have F2':Fl2 bs f.length (f.headD []).length f:=by rw [lf,hf]; exact F2
  have g1:=gg f Of F2'
  have L:=z9e R F2
  have hlay:lay h bs f=grid (fun a b=>nt bs (far h w bs n t (r + a / h) (c + b / w)) (a % h) (b % w)) (A * h) (C * w):=by
   rw [B.fl]
   exact z7l R _ A C fun i j=>z4s R hn t _ _
  have hAh:0 < A * h:=Nat.mul_pos a0 h0
  have hAm:A * h≤8 * 4:=Nat.mul_le_mul a1 h1
  have hCm:C * w≤8 * 4:=Nat.mul_le_mul c1 w1
  have z3:pLen (flD (lay h bs f))=some (.pure (.int ((A * h:Nat):Int))):=by
   rw [show flD (lay h bs f) = .tup ((lay h bs f).map .str) from rfl,z0O,List.length_map,L.rows]
  obtain ⟨gr0,z1,z2⟩:=zbP (fun a b=>nt bs (far h w bs n t (r + a / h) (c + b / w)) (a % h) (b % w)) (A:=A * h) (C:=C * w) hAh (by omega)
  rw [← hlay] at z1
  obtain ⟨d3,H,o11a,s1,q3,u1,u2,u3⟩:=za5 GD hd (ruD h w bs) (.str [n]) (flD f) (.tup (ws.map cuD)) (.tup [.int t,.int r,.int c]) (flD (lay h bs f)) (.int i) (.int j) h A i h0 h1 a0 a1 li x0 y3 z3 q2 (some (.pure (.int k))) o10 o11 o12
  obtain ⟨d4,W,o11b,s2,q4,v1,v2,v3⟩:=za6 GD hd (ruD h w bs) (.str [n]) (flD f) (.tup (ws.map cuD)) (.tup [.int t,.int r,.int c]) (flD (lay h bs f)) (.int i) (.int j) w C j w0 w1 c0 c1 lj x1 _ _ y1 z1 y2 z2 q3 (some (.pure (.int k))) (some (.pure (.int (H:Int)))) o11a o12
  have zl:(lay h bs f).length≤100000∧∀ r ∈ lay h bs f,r.length≤100000:=⟨by rw [L.rows]; omega,fun r hr=>by rw [L.cols r hr]; omega⟩
  have g2:=gc (lay h bs f) i j H W zl.1 zl.2
  have t1:=lt_int (H:Int) 9
  have t2:=lt_int (W:Int) 9
  have first:∀ X:Rs Fl,(dIf (dAnd (dTr (eOpF pLt 10 (bOf (eD (.int 9))))) (dTr (eOpF pLt 12 (bOf (eD (.int 9)))))) (dSeq (dAsg (eOp pAdd (eTup (z09 (eTup (z09 (eVar 8) (z09 (eVar 9) (z09 (eVar 3) aNil)))) aNil)) (bVar 4)) (gNm [0] 4)) (B6_ GC)) z0N) [some (.own d4),some (.pure (ruD h w bs)),some (.pure (.str [n])),some (.pure (flD f)),some (.pure (.tup (ws.map cuD))),some (.pure (.tup [.int t,.int r,.int c])),some (.pure (.int k)),some (.pure (flD (lay h bs f))),some (.pure (.int i)),some (.pure (.int j)),some (.pure (.int (H:Int))),o11b,some (.pure (.int (W:Int)))]=X →
    (B1_ GC GD GG) [some (.own pd),some (.pure (ruD h w bs)),some (.pure (.str [n])),some (.pure (flD f)),some (.pure (.tup (ws.map cuD))),some (.pure (.tup [.int t,.int r,.int c])),some (.pure (.int k)),o7,o8,o9,o10,o11,o12]=X:=fun X hX=>by
   have step1:∀ {δ δ1:Dl} {a b:DS} {x:Rs Fl},a δ = .ok .next δ1→b δ1=x→dSeq a b δ=x:=fun h1 h2=>z0V h1 h2
   refine z0V (δ1:=[some (.own pd),some (.pure (ruD h w bs)),some (.pure (.str [n])),some (.pure (flD f)),some (.pure (.tup (ws.map cuD))),some (.pure (.tup [.int t,.int r,.int c])),some (.pure (.int k)),some (.pure (flD (lay h bs f))),o8,o9,o10,o11,o12]) (by
    clear hX s1 s2 t1 t2 g2
    generalize ruD h w bs=ru at *
    generalize flD (lay h bs f)=fg at *
    generalize flD f=ff at *
    generalize D.tup (ws.map cuD)=wd at *
    simp [dAsg,z05,ios,ndup,z0x,evX,eVar,mkA,g1,putA]) ?_
   refine z0V (δ1:=[some (.own d1),some (.pure (ruD h w bs)),some (.pure (.str [n])),some (.pure (flD f)),some (.pure (.tup (ws.map cuD))),some (.pure (.tup [.int t,.int r,.int c])),some (.pure (.int k)),some (.pure (flD (lay h bs f))),some (.pure (.int i)),o9,o10,o11,o12]) (by
    clear hX s1 s2 t1 t2 g2
    generalize ruD h w bs=ru at *
    generalize flD (lay h bs f)=fg at *
    generalize flD f=ff at *
    generalize D.tup (ws.map cuD)=wd at *
    simp [dAsg,z05,ios,ndup,z0x,evX,eVar,bVar,eOpF,eOpN,x0,mkA,f1,putA]) ?_
   refine z0V (δ1:=[some (.own d2),some (.pure (ruD h w bs)),some (.pure (.str [n])),some (.pure (flD f)),some (.pure (.tup (ws.map cuD))),some (.pure (.tup [.int t,.int r,.int c])),some (.pure (.int k)),some (.pure (flD (lay h bs f))),some (.pure (.int i)),some (.pure (.int j)),o10,o11,o12]) (by
    clear hX s1 s2 t1 t2 g2
    generalize ruD h w bs=ru at *
    generalize flD (lay h bs f)=fg at *
    generalize flD f=ff at *
    generalize D.tup (ws.map cuD)=wd at *
    simp [dAsg,z05,ios,ndup,z0x,evX,eVar,bVar,eOpF,eOpN,x1,mkA,f2,putA]) ?_
   exact z0V s1 (z0V s2 hX)
  by_cases c9:H < 9∧W < 9
  ·have B':=zdu R hn B li lj u1 u2 u3 (by omega) v1 v2 v3 (by omega)
   refine ⟨_,[some (.own d4),some (.pure (ruD h w bs)),some (.pure (.str [n])),some (.pure (flD (cut (lay h bs f) i j H W))),some (.pure (.tup (((i,j,f) :: ws).map cuD))),some (.pure (.tup [.int ((t + 1:Nat):Int),.int ((r * h + i:Nat):Int),.int ((c * w + j:Nat):Int)])),some (.pure (.int k)),some (.pure (flD (lay h bs f))),some (.pure (.int i)),some (.pure (.int j)),some (.pure (.int (H:Int))),o11b,some (.pure (.int (W:Int)))],rfl,first _ ?_,d4,_,_,_,_,_,_,_,_,_,_,_,_,_,_,q4,B',by omega,rfl⟩
   rw [decide_eq_true (by omega)] at t1 t2
   have hwl:=B.tl
   have ad:=z5g [cuD (i,j,f)] (ws.map cuD) (by simp; omega)
   have ad':pAdd (.tup [.tup [.int i,.int j,flD f]]) (.tup (ws.map cuD))=some (.pure (.tup (((i,j,f) :: ws).map cuD))):=ad
   have pl0:pIx (.tup [.int t,.int r,.int c]) (.int 0)=some (.pure (.int t)):=ix30 _ _ _
   have pl1:pIx (.tup [.int t,.int r,.int c]) (.int 1)=some (.pure (.int r)):=ix31 _ _ _
   have pl2:pIx (.tup [.int t,.int r,.int c]) (.int 2)=some (.pure (.int c)):=ix32 _ _ _
   have n1:=mul_int r h (by omega) (by omega)
   have n2:=mul_int c w (by omega) (by omega)
   have n3:pAdd (.int t) (.int 1)=some (.pure (.int ((t + 1:Nat):Int))):=rfl
   have n4:pAdd (.int ((r:Int) * (h:Int))) (.int i)=some (.pure (.int ((r * h + i:Nat):Int))):=by rw [add_int]; simp
   have n5:pAdd (.int ((c:Int) * (w:Int))) (.int j)=some (.pure (.int ((c * w + j:Nat):Int))):=by rw [add_int]; simp
   clear s1 s2 first ad
   generalize flD (cut (lay h bs f) i j H W)=fc at *
   generalize flD (lay h bs f)=fg at *
   generalize flD f=ff at *
   generalize D.tup (((i,j,f) :: ws).map cuD)=wd' at *
   generalize D.tup (ws.map cuD)=wd at *
   generalize D.tup [.int t,.int r,.int c]=pld at *
   generalize D.int ((t + 1:Nat):Int)=y7 at *
   generalize D.int ((r * h + i:Nat):Int)=y8 at *
   generalize D.int ((c * w + j:Nat):Int)=y9 at *
   generalize D.int ((r:Int) * (h:Int))=y10 at *
   generalize D.int ((c:Int) * (w:Int))=y11 at *
   generalize ruD h w bs=ru at *
   simp [dTr,eOpF,eOpN,bVar,t1,t2,dAsg,eVar,ad',z05,ios,ndup,z0x,evX,mkA,g2,putA,pl0,pl1,pl2,x0,x1,n1,n2,n3,n4,n5]
  ·refine ⟨_,[some (.own d4),some (.pure (ruD h w bs)),some (.pure (.str [n])),some (.pure (flD f)),some (.pure (.tup (ws.map cuD))),some (.pure (.tup [.int t,.int r,.int c])),some (.pure (.int k)),some (.pure (flD (lay h bs f))),some (.pure (.int i)),some (.pure (.int j)),some (.pure (.int (H:Int))),o11b,some (.pure (.int (W:Int)))],rfl,first _ ?_,d4,f,ws,t,r,c,A,C,_,_,_,_,_,_,_,q4,B,by omega,rfl⟩
   clear s1 s2 first
   generalize ruD h w bs=ru at *
   generalize flD (lay h bs f)=fg at *
   generalize flD f=ff at *
   generalize D.tup (ws.map cuD)=wd at *
   by_cases c8:H < 9
   ·have c7:¬ W < 9:=fun z=>c9 ⟨c8,z⟩
    rw [decide_eq_true (by omega)] at t1
    rw [decide_eq_false (by omega)] at t2
    simp [dTr,eOpF,eOpN,bVar,t1,t2]
   ·rw [decide_eq_false (by omega)] at t1
    simp [dTr,eOpF,eOpN,bVar,t1])
 rw [Nat.zero_add,z2R] at ht
 refine ⟨f,ws,t,r,c,A,C,pd2,?_,B,by omega,hp2⟩
 have k1:D.tup [.str [n]]=flD [[n]]:=rfl
 rw [z0T]
 generalize ruD h w bs=ru at *
 generalize hfd:flD f=ff at *
 generalize hwd:D.tup (ws.map cuD)=wd at *
 simp [ioOk,z0h,dAsg,eVar,z05,ios,ndup,z0x,evX,mkA,e1',putA,z4d m (by omega)]
 rw [k1,e]
 simp [eVar,z0y,z0f]
theorem zcP {h w n:Nat} {bs:List (Nat×List Tx)} (R:Rul h w bs) (hn:n ∈ bs.map (·.1)) {pd:D} (hpd:Pen pd) :
  ∃ (f:List Tx) (ws:List Cu) (t r c A C:Nat) (pd':D),z1J [.own pd,.pure (ruD h w bs),.pure (.str [n])]=some (.pure (.tup [flD f,.tup (ws.map cuD),.tup [.int t,.int r,.int c]]),[.own pd',.pure (ruD h w bs),.pure (.str [n])])∧Bt h w bs n f ws t r c A C∧t≤5∧Pen pd':=by
 rw [z1J,z45]
 exact zcT z0d z0C z1E z7v R hn hpd (fun l Ol F=>z5R R F (by have:=Ol.r1; omega) (by have:=Ol.c1; omega)) (fun l i j r c h1 h2=>by rw [z1E,z4a]; exact zbz h1 h2 _ _ _ _)
open L2 DV
open PySem (sizeLine)
theorem ze5 (GT GD:DF) (hd:z5j GD) (ru:D) (ts:List Nat) (t0:0 < ts.length) (t1:ts.length≤26) (gt:GT [.pure ru]=some (.own (.lst (ts.map t1D)),[.pure ru])) (A C:Nat) (hA:A≤100) (hC:C≤100) {pd:D} (hpd:Pen pd) :
  ∃ (g:List Tx) (pd':D),gOf [0] 8 (dSeq (dAsg (z05 GT [.val (eVar 1)]) (gNm [0] 4)) (dSeq (dAsg (eLst aNil) (gNm [0] 5)) (dSeq (dFor (z0S (eVar 2)) (gNm [0] 6) (z0W 5 (eC1 (z2t []) (bOf (z28 [7] (z0S (eVar 3)) (gNm [0] 7) dYes (eOpF pIx 4 (bOf (z05 GD [.io 0,.val (eC1 pLen (bVar 4))])))))))) (dRet (eC1 z1Q (bVar 5)))))) [.own pd,.pure ru,.pure (.int A),.pure (.int C)]=some (.pure (flD g),[.own pd',.pure ru,.pure (.int A),.pure (.int C)])∧g.length=A∧(∀ r ∈ g,r.length=C)∧Pen pd':=by
 have tl:((ts.map t1D).length:Int)=(ts.length:Int):=by simp
 have signs:∀ (pd:D) (acc:List Tx) (o6:Option S),Pen pd→∃ (x:Tx) (pd':D),z2F [7] (gNm [0] 7) dYes (eOpF pIx 4 (bOf (z05 GD [.io 0,.val (eC1 pLen (bVar 4))]))) (z1g 0 C) [some (.own pd),some (.pure ru),some (.pure (.int A)),some (.pure (.int C)),some (.own (.lst (ts.map t1D))),some (.own (.lst (acc.map .str))),o6,none] [] = .ok (x.map fun n=>.str [n]) [some (.own pd'),some (.pure ru),some (.pure (.int A)),some (.pure (.int C)),some (.own (.lst (ts.map t1D))),some (.own (.lst (acc.map .str))),o6,none]∧x.length=C∧Pen pd':=fun pd acc o6 hpd=>by
  obtain ⟨xs,δ',e,⟨pd',hpd',rfl⟩,hn,hf⟩:=z4Y (cs:=[7]) (g:=gNm [0] 7) (t:=dYes) (el:=eOpF pIx 4 (bOf (z05 GD [.io 0,.val (eC1 pLen (bVar 4))]))) (fun δ=>∃ pd,Pen pd∧δ=[some (.own pd),some (.pure ru),some (.pure (.int A)),some (.pure (.int C)),some (.own (.lst (ts.map t1D))),some (.own (.lst (acc.map .str))),o6,none])
   (fun _ x=>∃ n,n ∈ ts∧x = .str [n]) (z1g 0 C) _ [] ⟨pd,hpd,rfl⟩ (by rw [z1L]; simp; omega) (fun d hdd δ ⟨pd,hpd,e⟩=>by
    subst e
    obtain ⟨i,hi,rfl⟩:=z5i hdd
    obtain ⟨r,d',e,l,p⟩:=hd pd ts.length hpd t0 (by omega)
    have hx:pIx (.lst (ts.map t1D)) (.int r)=some (.pure (.str [ts.getD r 0])):=by simp [pIx,z2N,l]
    have hlen:pLen (.lst (ts.map t1D))=some (.pure (.int (ts.length:Int))):=by
     show some (S.pure (.int ((ts.map t1D).length:Int)))=_
     rw [tl]
    refine ⟨_,_,.pure (.str [ts.getD r 0]),[some (.own d'),some (.pure ru),some (.pure (.int A)),some (.pure (.int C)),some (.own (.lst (ts.map t1D))),some (.own (.lst (acc.map .str))),o6,some (.pure (.int i))],rfl,rfl,?_,⟨d',p,rfl⟩,⟨ts.getD r 0,?_,rfl⟩⟩
    ·generalize ts.getD r 0=nm at *
     generalize ts.map t1D=TD at *
     generalize acc.map D.str=AD at *
     simp [eOpF,eOpN,z05,ios,ndup,z0x,evX,bVar,hlen,mkA,e,putA,hx]
    ·simp [l])
  obtain ⟨x,rfl,hx⟩:=z8z (P:=fun n=>n ∈ ts) (zae hn hf fun d x _ h=>h)
  exact ⟨x,pd',by simpa using e,by simpa using hn,hpd'⟩
 obtain ⟨δ',e,pd',g,o6,hp',hg,hall,rfl⟩:=z2d (g:=gNm [0] 6) (b:=(z0W 5 (eC1 (z2t []) (bOf (z28 [7] (z0S (eVar 3)) (gNm [0] 7) dYes (eOpF pIx 4 (bOf (z05 GD [.io 0,.val (eC1 pLen (bVar 4))])))))))) (fun k δ=>∃ (pd:D) (acc:List Tx) (o6:Option S),Pen pd∧acc.length=k∧(∀ r ∈ acc,r.length=C)∧δ=[some (.own pd),some (.pure ru),some (.pure (.int A)),some (.pure (.int C)),some (.own (.lst (ts.map t1D))),some (.own (.lst (acc.map .str))),o6,none]) (z1g 0 A) 0 [some (.own pd),some (.pure ru),some (.pure (.int A)),some (.pure (.int C)),some (.own (.lst (ts.map t1D))),some (.own (.lst [])),none,none] ⟨pd,[],none,hpd,rfl,by simp,rfl⟩ (fun i d δ hdd ⟨pd,acc,o6,hpd,hac,hall,e⟩=>by
  subst e
  obtain ⟨hi,rfl⟩:=z1H hdd
  rw [Nat.zero_add] at hac ⊢
  obtain ⟨x,pd',ec,hx,hp'⟩:=signs pd acc (some (.pure (.int i))) hpd
  have ej:=z9p x (by omega)
  have hz:(acc.map D.str).length < sizeLine:=by rw [z1L]; simp; omega
  have hE:(acc ++ [x]).map D.str=acc.map D.str ++ [.str x]:=by simp
  refine ⟨_,[some (.own pd'),some (.pure ru),some (.pure (.int A)),some (.pure (.int C)),some (.own (.lst (ts.map t1D))),some (.own (.lst ((acc ++ [x]).map .str))),some (.pure (.int i)),none],rfl,?_,pd',acc ++ [x],_,hp',by simp [hac],?_,rfl⟩
  ·rw [hE]
   generalize x.map (fun n=>D.str [n])=XS at *
   generalize ts.map t1D=TD at *
   generalize acc.map D.str=AD at *
   simp [z0W,z3K,eVar,z4d C (by omega),z0x,clrD]
   rw [ec]
   simp [z20,ej,putL,hz]
  ·intro r hr
   rcases List.mem_append.mp hr with hr | hr
   ·exact hall r hr
   ·simp at hr; subst hr; exact hx)
 rw [Nat.zero_add,z2R] at hg
 refine ⟨g,pd',?_,hg,hall,hp'⟩
 rw [z0T]
 generalize ts.map t1D=TD at *
 generalize hgd:g.map D.str=GG at *
 simp [ioOk,z0h,dAsg,z05,ios,ndup,z0x,evX,eVar,mkA,gt,putA,z4d A (by omega)]
 rw [e]
 simp [bVar,z1Q,z0y,z0f]
 exact hgd.symm
theorem zdP {h w:Nat} {bs:List (Nat×List Tx)} (R:Rul h w bs) (A C:Nat) (hA:A≤100) (hC:C≤100) {pd:D} (hpd:Pen pd) :
  ∃ (g:List Tx) (pd':D),z0I [.own pd,.pure (ruD h w bs),.pure (.int A),.pure (.int C)]=some (.pure (flD g),[.own pd',.pure (ruD h w bs),.pure (.int A),.pure (.int C)])∧g.length=A∧(∀ r ∈ g,r.length=C)∧Pen pd':=by
 rw [z0I,z2H]
 exact ze5 z0q z0d z7v _ (bs.map (·.1)) (by have:=R.n0; simpa using this) (by have:=R.n1; simpa using this) (z56 R) A C hA hC hpd
open L2 DV
open PySem (sizeLine)
theorem za4 (ds:List D) (lo hi:Option Int):pSl lo hi (.tup ds)=some (.pure (.tup (cutL ds lo hi))):=rfl
theorem cutm {α:Type} {xs:List α} {lo hi:Option Int} {x:α} (h:x ∈ cutL xs lo hi):x ∈ xs:=List.mem_of_mem_drop (List.mem_of_mem_take h)
theorem z4A (xs ys:List D) (h:xs.length + ys.length≤1000):pAdd (.lst xs) (.lst ys)=some (.own (.lst (xs ++ ys))):=by
 have hz:sizeLine=16777216:=rfl
 simp only [pAdd]
 rw [if_pos (by omega)]
theorem zeM (L:List D) (r:Nat) (h:r < L.length):∃ e ∈ L,pIx (.lst L) (.int r)=some (.pure e):=⟨L[r],List.getElem_mem h,by simp [pIx,z2N,h]⟩
theorem zdb:pNeg (.int 1)=some (.pure (.int (-1))):=rfl
theorem z91 (l:List Tx) (h1:l.length≤1000) (h2:∀ r ∈ l,r.length≤1000):SmT (flD l)∧flat 50 (flD l)=true:=by
 refine ⟨⟨by simpa using h1,fun d hd=>?_⟩,z3W 49 l⟩
 obtain ⟨r,hr,rfl⟩:=List.mem_map.mp hd
 exact h2 r hr
theorem FO.sm {l:List Tx} (O:FO l):SmT (flD l)∧flat 50 (flD l)=true:=z91 l (by have:=O.r1; omega) fun r hr=>by have:=O.eq r hr; have:=O.c1; omega
abbrev oSt (ru W pd:D) (o3 o4 o5 o6 o7 o8 o9:Option S):Dl:=[some (.own pd),some (.pure ru),some (.pure W),o3,o4,o5,o6,o7,o8,o9,none,none]
theorem zd9 (GD:DF) (hd:z5j GD) (ru W:D) (L:List D) (h0:0 < L.length) (h1:L.length≤1000) (hL:∀ x ∈ L,SW x) {pd:D} (hpd:Pen pd) (o4 o5 o6 o7 o8 o9:Option S) :
  ∃ x pd',dRet (eOpF pIx 3 (bOf (z05 GD [.io 0,.val (eC1 pLen (bVar 3))]))) (oSt ru W pd (some (.own (.lst L))) o4 o5 o6 o7 o8 o9) = .ok (.ret (.pure x)) (oSt ru W pd' (some (.own (.lst L))) o4 o5 o6 o7 o8 o9)∧SW x∧Pen pd':=by
 obtain ⟨r,pd',e,l,p⟩:=hd pd L.length hpd h0 (by omega)
 obtain ⟨x,hx,ex⟩:=zeM L r l
 have hl:pLen (.lst L)=some (.pure (.int (L.length:Int))):=rfl
 refine ⟨x,pd',?_,hL x hx,p⟩
 simp [oSt,eOpF,eOpN,z05,ios,ndup,z0x,evX,bVar,hl,mkA,e,putA,ex]
theorem cut1 {α:Type} (l:List α):(cutL l none (some 1)).length≤l.length:=z4X _ _ _
abbrev B8_ (GD GS:DF):DS:=dIf (dTr (eOpF pNe 2 (bOf (eTup aNil)))) (dSeq (dAsg (z05 GD [.io 0,.val (eC1 pLen (bVar 2))]) (gNm [0] 4)) (dSeq (dAsg (eOpF pIx 2 (bVar 4)) (gTp 3 (z0i (gNm [0] 5) (z0i (gNm [0] 6) (z0i (gNm [0] 7) z1F))))) (dSeq (dAsg (z05 GS [.io 0,.val (eVar 1),.val (eC1 pLen (bVar 7)),.val (eC1 pLen (bOf (eOpF pIx 7 (bOf (eD (.int 0))))))]) (gNm [0] 8)) (B0_)))) z0N
abbrev B2_ (GD GS:DF):DS:=dSeq (dAsg (eLst (z09 (eC1 z4J (bVar 2)) (z09 (eD .non) (z09 (eTup aNil) (z09 (eC1 z5S (bVar 2)) (z09 (eOpF pAdd 2 (bOf (eSlN 2 z38 (z19 (eD (.int 1)))))) (z09 (eD (.str [])) (z09 (eD (.int 0)) (z09 (eSlN 2 (z19 (eD (.int 1))) z38) (z09 (eSlN 2 z38 (z19 (eC1 pNeg (bOf (eD (.int 1)))))) (z09 (eD (.tup [.tup []])) (z09 (eD (.tup [.non])) (z09 z8k aNil))))))))))))) (gNm [0] 3)) (dSeq (B8_ GD GS) (dRet (eOpF pIx 3 (bOf (z05 GD [.io 0,.val (eC1 pLen (bVar 3))])))))
theorem q_odd (GS GD:DF) (hd:z5j GD) (ru:D) (gs:∀ (A C:Nat) (pd:D),A≤100→C≤100→Pen pd→∃ (g:List Tx) (pd':D),GS [.own pd,.pure ru,.pure (.int A),.pure (.int C)]=some (.pure (flD g),[.own pd',.pure ru,.pure (.int A),.pure (.int C)])∧g.length=A∧(∀ r ∈ g,r.length=C)∧Pen pd') (ws:List Cu) (hw:ws.length≤5) (hws:∀ x ∈ ws,FO x.2.2) {pd:D} (hpd:Pen pd) :
  ∃ x pd',gOf [0] 12 (B2_ GD GS) [.own pd,.pure ru,.pure (.tup (ws.map cuD))]=some (.pure x,[.own pd',.pure ru,.pure (.tup (ws.map cuD))])∧SW x∧Pen pd':=by
 have hW:∀ d ∈ ws.map cuD,Sx d:=fun d hd=>by
  obtain ⟨c,hc,rfl⟩:=List.mem_map.mp hd
  exact (hws c hc).sm
 have hWl:(ws.map cuD).length=ws.length:=by simp
 have hcl:∀ lo hi,(cutL (ws.map cuD) lo hi).length≤5:=fun lo hi=>by have:=z4X (ws.map cuD) lo hi; omega
 have hflat:flat 50 (.tup (ws.map cuD))=true:=by
  show z4r 49 (ws.map cuD)=true
  clear hw hW hWl hcl
  induction ws with
  | nil=>rfl
  | cons c r ih =>
   have a:=z3W 47 c.2.2
   have b:=ih fun x hx=>hws x (List.mem_cons_of_mem _ hx)
   simp only [List.map_cons,z4r,b,Bool.and_true]
   simp [cuD,flat,z4r] at a ⊢
   exact a
 have hne:pNe (.tup (ws.map cuD)) (.tup [])=some (.pure (.bl (!ws.isEmpty))):=by
  unfold pNe
  rw [hflat]
  cases ws with
  | nil=>rfl
  | cons a r=>rfl
 have ad0:=z5g (ws.map cuD) (cutL (ws.map cuD) none (some 1)) (by have:=hcl none (some 1); omega)
 have lw:pLen (.tup (ws.map cuD))=some (.pure (.int (ws.length:Int))):=by rw [z0O,hWl]
 -- the first things
 have hL0:∀ x ∈ ([.lst (ws.map cuD),.non,.tup [],.tup (ws.map cuD).reverse,.tup (ws.map cuD ++ cutL (ws.map cuD) none (some 1)),.str [],.int 0,.tup (cutL (ws.map cuD) (some 1) none),.tup (cutL (ws.map cuD) none (some (-1))),.tup [.tup []],.tup [.non],.dct []]:List D),SW x:=fun x hx=>by
  simp only [List.mem_cons,List.not_mem_nil,or_false] at hx
  rcases hx with rfl | rfl | rfl | rfl | rfl | rfl | rfl | rfl | rfl | rfl | rfl | rfl
  ·exact trivial
  ·exact trivial
  ·exact ⟨by simp,by simp⟩
  ·exact ⟨by rw [List.length_reverse,hWl]; omega,fun d hd=>hW d (List.mem_reverse.mp hd)⟩
  ·refine ⟨by have:=hcl none (some 1); rw [List.length_append,hWl]; omega,fun d hd=>?_⟩
   rcases List.mem_append.mp hd with hd | hd
   ·exact hW d hd
   ·exact hW d (cutm hd)
  ·exact trivial
  ·exact trivial
  ·exact ⟨by have:=hcl (some 1) none; omega,fun d hd=>hW d (cutm hd)⟩
  ·exact ⟨by have:=hcl none (some (-1)); omega,fun d hd=>hW d (cutm hd)⟩
  ·exact ⟨by simp,fun d hd=>by simp at hd; subst hd; exact trivial⟩
  ·exact ⟨by simp,fun d hd=>by simp at hd; subst hd; exact trivial⟩
  ·exact trivial
 have hL0l:([.lst (ws.map cuD),.non,.tup [],.tup (ws.map cuD).reverse,.tup (ws.map cuD ++ cutL (ws.map cuD) none (some 1)),.str [],.int 0,.tup (cutL (ws.map cuD) (some 1) none),.tup (cutL (ws.map cuD) none (some (-1))),.tup [.tup []],.tup [.non],.dct []]:List D).length=12:=rfl
 have st0:((dAsg (eLst (z09 (eC1 z4J (bVar 2)) (z09 (eD .non) (z09 (eTup aNil) (z09 (eC1 z5S (bVar 2)) (z09 (eOpF pAdd 2 (bOf (eSlN 2 z38 (z19 (eD (.int 1)))))) (z09 (eD (.str [])) (z09 (eD (.int 0)) (z09 (eSlN 2 (z19 (eD (.int 1))) z38) (z09 (eSlN 2 z38 (z19 (eC1 pNeg (bOf (eD (.int 1)))))) (z09 (eD (.tup [.tup []])) (z09 (eD (.tup [.non])) (z09 z8k aNil))))))))))))) (gNm [0] 3)):DS) (oSt ru (.tup (ws.map cuD)) pd none none none none none none none) = .ok .next (oSt ru (.tup (ws.map cuD)) pd (some (.own (.lst [.lst (ws.map cuD),.non,.tup [],.tup (ws.map cuD).reverse,.tup (ws.map cuD ++ cutL (ws.map cuD) none (some 1)),.str [],.int 0,.tup (cutL (ws.map cuD) (some 1) none),.tup (cutL (ws.map cuD) none (some (-1))),.tup [.tup []],.tup [.non],.dct []]))) none none none none none none):=by
  have a1:z4J (.tup (ws.map cuD))=some (.own (.lst (ws.map cuD))):=rfl
  have a2:z5S (.tup (ws.map cuD))=some (.pure (.tup (ws.map cuD).reverse)):=rfl
  have a3:=za4 (ws.map cuD)
  generalize (ws.map cuD).reverse=Wr at *
  generalize ws.map cuD ++ cutL (ws.map cuD) none (some 1)=Wa at *
  clear hL0 hL0l hcl hflat hne lw hWl hW
  simp [oSt,dAsg,bVar,a1,a2,a3,eSlN,z19,z38,eOpF,eOpN,ad0,zdb,z8k]
 generalize hLL:([.lst (ws.map cuD),.non,.tup [],.tup (ws.map cuD).reverse,.tup (ws.map cuD ++ cutL (ws.map cuD) none (some 1)),.str [],.int 0,.tup (cutL (ws.map cuD) (some 1) none),.tup (cutL (ws.map cuD) none (some (-1))),.tup [.tup []],.tup [.non],.dct []]:List D)=L0 at *
 have fin:∀ (L:List D) (pd1:D) (o4 o5 o6 o7 o8 o9:Option S),Pen pd1→0 < L.length→L.length≤1000→(∀ x ∈ L,SW x)→((B8_ GD GS):DS) (oSt ru (.tup (ws.map cuD)) pd (some (.own (.lst L0))) none none none none none none) = .ok .next (oSt ru (.tup (ws.map cuD)) pd1 (some (.own (.lst L))) o4 o5 o6 o7 o8 o9) →
   ∃ x pd',gOf [0] 12 (B2_ GD GS) [.own pd,.pure ru,.pure (.tup (ws.map cuD))]=some (.pure x,[.own pd',.pure ru,.pure (.tup (ws.map cuD))])∧SW x∧Pen pd':=fun L pd1 o4 o5 o6 o7 o8 o9 hp1 l0 l1 hL hi=>by
  obtain ⟨x,pd',ex,sx,px⟩:=zd9 GD hd ru (.tup (ws.map cuD)) L l0 l1 hL hp1 o4 o5 o6 o7 o8 o9
  refine ⟨x,pd',?_,sx,px⟩
  have k:((B2_ GD GS):DS) (oSt ru (.tup (ws.map cuD)) pd none none none none none none none) = .ok (.ret (.pure x)) (oSt ru (.tup (ws.map cuD)) pd' (some (.own (.lst L))) o4 o5 o6 o7 o8 o9):=z0V st0 (z0V hi ex)
  have k':z0h 12 [.own pd,.pure ru,.pure (.tup (ws.map cuD))]=oSt ru (.tup (ws.map cuD)) pd none none none none none none none:=rfl
  rw [z0T,k',k]
  simp [ioOk,oSt,z0y,z0f]
 cases hE:ws.isEmpty with
 | true =>
  rw [hE] at hne
  refine fin L0 pd none none none none none none hpd (by omega) (by omega) hL0 ?_
  generalize D.tup (ws.map cuD)=Wd at *
  simp [oSt,dTr,eOpF,eOpN,bVar,hne]
 | false =>
  rw [hE] at hne
  have hw0:0 < ws.length:=by cases ws with | nil=>simp at hE | cons _ _=>simp
  obtain ⟨sp,pd1,e1,l1,p1⟩:=hd pd ws.length hpd hw0 (by omega)
  obtain ⟨⟨i,j,l⟩,hc⟩:∃ c,ws[sp]? = some c:=⟨ws[sp],by simp [l1]⟩
  have hcm:=List.mem_of_getElem? hc
  have O:FO l:=hws _ hcm
  have xc:pIx (.tup (ws.map cuD)) (.int sp)=some (.pure (.tup [.int i,.int j,flD l])):=by simp [pIx,z2N,hc]
  obtain ⟨y1,y2,y3⟩:=O.head
  have r0:=O.r0
  have r1:=O.r1
  have c0:=O.c0
  have c1:=O.c1
  obtain ⟨g,pd2,e2,g1,g2,p2⟩:=gs l.length (l.headD []).length pd1 (by omega) (by omega) p1
  have O1:=O.sm
  have Og:SmT (flD g)∧flat 50 (flD g)=true:=z91 g (by omega) fun r hr=>by have:=g2 r hr; omega
  have hrow:∀ r ∈ l,r.length≤64∧0 < r.length:=fun r hr=>by rw [O.eq r hr]; exact ⟨c1,c0⟩
  -- l + l[:1],and each row with its first tile behind
  have b1:pSl none (some 1) (flD l)=some (.pure (flD (cutL l none (some 1)))):=by
   show some (S.pure (.tup (cutL (l.map D.str) none (some 1))))=_
   rw [z4W]
  have b2:pAdd (flD l) (flD (cutL l none (some 1)))=some (.pure (flD (l ++ cutL l none (some 1)))):=by
   have:=z5g (l.map D.str) ((cutL l none (some 1)).map D.str) (by have:=cut1 l; simp; omega)
   rw [← List.map_append] at this
   exact this
  have Ob:SmT (flD (l ++ cutL l none (some 1)))∧flat 50 (flD (l ++ cutL l none (some 1)))=true:=z91 _ (by have:=cut1 l; rw [List.length_append]; omega) fun r hr=>by
   rcases List.mem_append.mp hr with hr | hr
   ·have:=(hrow r hr).1; omega
   ·have:=(hrow r (cutm hr)).1; omega
  have rowF:∀ r ∈ l,pIx (.str r) (.int 0)=some (.pure (.str [r.getD 0 0]))∧pAdd (.str r) (.str [r.getD 0 0])=some (.pure (.str (r ++ [r.getD 0 0]))):=fun r hr=>by
   have hr':=hrow r hr
   refine ⟨z69 r 0 (by omega) (by omega),?_⟩
   exact z9w r [r.getD 0 0] (by simp; omega)
  have Oc:SmT (flD (l.map fun r=>r ++ [r.getD 0 0]))∧flat 50 (flD (l.map fun r=>r ++ [r.getD 0 0]))=true:=z91 _ (by simp; omega) fun r hr=>by
   obtain ⟨q,hq,rfl⟩:=List.mem_map.mp hr
   have:=(hrow q hq).1
   simp
   omega
  have b3:z4J (flD l)=some (.own (.lst (l.map .str))):=rfl
  have tx:∀ c:D,SmT c∧flat 50 c=true→∀ a b:D,Sx (.tup [a,b,c]):=fun c h a b=>h
  have sO:∀ x ∈ ([.tup [.int ((i:Int) + 1),.int j,flD l],.tup [.int i,.int ((j:Int) + 1),flD l],.tup [.int ((i:Int) - 1),.int j,flD l],.tup [.int i,.int j,flD g],.tup [.int i,.int j],.tup [.int i,.int j,flD l,.int 0],
    .tup [.int i,.int j,flD (l ++ cutL l none (some 1))],.tup [.int i,.int j,flD (l.map fun r=>r ++ [r.getD 0 0])],.tup [.int j,.int i,flD l],.tup [.int i,.int j,.lst (l.map .str)],.tup [.bl ((i:Int) == 1),.int j,flD l],.tup [.int i,.non,flD l],
    .lst [.int i,.int j,flD l],.non,.tup [.int i,.int j,.tup [.str [65]]],.tup [.int i,.int j,.tup []],.tup [.int i,.int j,.non],.tup [.int i,.int j,.str (l.headD [])],.tup [.int i,.bl ((j:Int) == 1),flD l],.tup [.int i,.int j,.tup [.str []]]]:List D),Sx x:=fun x hx=>by
   simp only [List.mem_cons,List.not_mem_nil,or_false] at hx
   rcases hx with rfl | rfl | rfl | rfl | rfl | rfl | rfl | rfl | rfl | rfl | rfl | rfl | rfl | rfl | rfl | rfl | rfl | rfl | rfl | rfl
   ·exact O1
   ·exact O1
   ·exact O1
   ·exact Og
   ·exact trivial
   ·exact trivial
   ·exact Ob
   ·exact Oc
   ·exact O1
   ·exact ⟨trivial,by
     have:=O1.2
     show z4r 49 (l.map D.str)=true
     exact this⟩
   ·exact O1
   ·exact O1
   ·exact trivial
   ·exact trivial
   ·exact ⟨⟨by simp,fun d hd=>by simp at hd; subst hd; simp [Sm]⟩,rfl⟩
   ·exact ⟨⟨by simp,by simp⟩,rfl⟩
   ·exact ⟨trivial,rfl⟩
   ·exact ⟨trivial,rfl⟩
   ·exact O1
   ·exact ⟨⟨by simp,fun d hd=>by simp at hd; subst hd; simp [Sm]⟩,rfl⟩
  have eq1:=z9q (i:Int) 1
  have eq2:=z9q (j:Int) 1
  -- the last comprehension
  have comp:∀ (OO:List D),OO.length≤100→z2F [10] (gNm [0] 10) dYes (eOp pAdd (eOp pAdd (eSlN 2 z38 (z19 (eVar 4))) (bOf (eTup (z09 (eVar 10) aNil)))) (bOf (eSlN 2 (z19 (eOpF pAdd 4 (bOf (eD (.int 1))))) z38))) OO [some (.own pd2),some (.pure ru),some (.pure (.tup (ws.map cuD))),some (.own (.lst L0)),some (.pure (.int sp)),some (.pure (.int i)),some (.pure (.int j)),some (.pure (flD l)),some (.pure (flD g)),some (.pure (.lst OO)),none,none] []
    = .ok (OO.map fun x=>.tup (cutL (ws.map cuD) none (some (sp:Int)) ++ [x] ++ cutL (ws.map cuD) (some ((sp:Int) + 1)) none)) [some (.own pd2),some (.pure ru),some (.pure (.tup (ws.map cuD))),some (.own (.lst L0)),some (.pure (.int sp)),some (.pure (.int i)),some (.pure (.int j)),some (.pure (flD l)),some (.pure (flD g)),some (.pure (.lst OO)),none,none]:=fun OO hOO=>by
   have e:=z1D (cs:=[10]) (g:=gNm [0] 10) (t:=dYes) (el:=(eOp pAdd (eOp pAdd (eSlN 2 z38 (z19 (eVar 4))) (bOf (eTup (z09 (eVar 10) aNil)))) (bOf (eSlN 2 (z19 (eOpF pAdd 4 (bOf (eD (.int 1))))) z38)))) (fun d:D=>d) (fun x=>.tup (cutL (ws.map cuD) none (some (sp:Int)) ++ [x] ++ cutL (ws.map cuD) (some ((sp:Int) + 1)) none)) [some (.own pd2),some (.pure ru),some (.pure (.tup (ws.map cuD))),some (.own (.lst L0)),some (.pure (.int sp)),some (.pure (.int i)),some (.pure (.int j)),some (.pure (flD l)),some (.pure (flD g)),some (.pure (.lst OO)),none,none] OO [] (by rw [z1L]; simp; omega) (fun x hx=>by
    have q1:=za4 (ws.map cuD) none (some (sp:Int))
    have q2:=za4 (ws.map cuD) (some ((sp:Int) + 1)) none
    have q3:=z5g (cutL (ws.map cuD) none (some (sp:Int))) [x] (by have:=hcl none (some (sp:Int)); simp; omega)
    have q4:=z5g (cutL (ws.map cuD) none (some (sp:Int)) ++ [x]) (cutL (ws.map cuD) (some ((sp:Int) + 1)) none) (by have:=hcl none (some (sp:Int)); have:=hcl (some ((sp:Int) + 1)) none; simp; omega)
    have q5:=add_int (sp:Int) 1
    refine ⟨_,_,.pure (.tup (cutL (ws.map cuD) none (some (sp:Int)) ++ [x] ++ cutL (ws.map cuD) (some ((sp:Int) + 1)) none)),[some (.own pd2),some (.pure ru),some (.pure (.tup (ws.map cuD))),some (.own (.lst L0)),some (.pure (.int sp)),some (.pure (.int i)),some (.pure (.int j)),some (.pure (flD l)),some (.pure (flD g)),some (.pure (.lst OO)),some (.pure x),none],rfl,rfl,?_,rfl,rfl⟩
    clear e1 e2 xc y1 y2 y3 b1 b2 b3 sO eq1 eq2 rowF fin st0
    generalize cutL (ws.map cuD) none (some (sp:Int)) ++ [x] ++ cutL (ws.map cuD) (some ((sp:Int) + 1)) none=R2 at *
    generalize cutL (ws.map cuD) none (some (sp:Int)) ++ [x]=R1 at *
    generalize cutL (ws.map cuD) none (some (sp:Int))=R0 at *
    generalize cutL (ws.map cuD) (some ((sp:Int) + 1)) none=R3 at *
    generalize D.tup (ws.map cuD)=Wd at *
    generalize flD l=fl at *
    generalize flD g=fg at *
    simp [eSlN,z38,z19,eVar,bVar,q1,q2,q3,q4,q5,eOpF,eOpN])
   rw [show OO.map (fun d:D=>d)=OO by simp,List.nil_append] at e
   exact e
  have rowC:∀ o9:Option S,z2F [11] (gNm [0] 11) dYes (eOpF pAdd 11 (bOf (eOpF pIx 11 (bOf (eD (.int 0)))))) (l.map .str) [some (.own pd2),some (.pure ru),some (.pure (.tup (ws.map cuD))),some (.own (.lst L0)),some (.pure (.int sp)),some (.pure (.int i)),some (.pure (.int j)),some (.pure (flD l)),some (.pure (flD g)),o9,none,none] [] = .ok ((l.map fun r=>r ++ [r.getD 0 0]).map .str) [some (.own pd2),some (.pure ru),some (.pure (.tup (ws.map cuD))),some (.own (.lst L0)),some (.pure (.int sp)),some (.pure (.int i)),some (.pure (.int j)),some (.pure (flD l)),some (.pure (flD g)),o9,none,none]:=fun o9=>by
   have e:=z1D (cs:=[11]) (g:=gNm [0] 11) (t:=dYes) (el:=(eOpF pAdd 11 (bOf (eOpF pIx 11 (bOf (eD (.int 0))))))) D.str (fun r=>.str (r ++ [r.getD 0 0])) [some (.own pd2),some (.pure ru),some (.pure (.tup (ws.map cuD))),some (.own (.lst L0)),some (.pure (.int sp)),some (.pure (.int i)),some (.pure (.int j)),some (.pure (flD l)),some (.pure (flD g)),o9,none,none] l [] (by rw [z1L]; simp; omega) (fun r hr=>by
    obtain ⟨q1,q2⟩:=rowF r hr
    refine ⟨_,_,.pure (.str (r ++ [r.getD 0 0])),[some (.own pd2),some (.pure ru),some (.pure (.tup (ws.map cuD))),some (.own (.lst L0)),some (.pure (.int sp)),some (.pure (.int i)),some (.pure (.int j)),some (.pure (flD l)),some (.pure (flD g)),o9,none,some (.pure (.str r))],rfl,rfl,?_,rfl,rfl⟩
    clear e1 e2 xc y1 y2 y3 b1 b2 b3 sO eq1 eq2 rowF fin st0 comp
    generalize r ++ [r.getD 0 0]=R1 at *
    generalize r.getD 0 0=R0 at *
    generalize D.tup (ws.map cuD)=Wd at *
    generalize flD l=fl at *
    generalize flD g=fg at *
    simp [eOpF,eOpN,bVar,q1,q2])
   rw [List.nil_append] at e
   rw [e]
   simp [Function.comp_def]
  generalize hO:([.tup [.int ((i:Int) + 1),.int j,flD l],.tup [.int i,.int ((j:Int) + 1),flD l],.tup [.int ((i:Int) - 1),.int j,flD l],.tup [.int i,.int j,flD g],.tup [.int i,.int j],.tup [.int i,.int j,flD l,.int 0],
    .tup [.int i,.int j,flD (l ++ cutL l none (some 1))],.tup [.int i,.int j,flD (l.map fun r=>r ++ [r.getD 0 0])],.tup [.int j,.int i,flD l],.tup [.int i,.int j,.lst (l.map .str)],.tup [.bl ((i:Int) == 1),.int j,flD l],.tup [.int i,.non,flD l],
    .lst [.int i,.int j,flD l],.non,.tup [.int i,.int j,.tup [.str [65]]],.tup [.int i,.int j,.tup []],.tup [.int i,.int j,.non],.tup [.int i,.int j,.str (l.headD [])],.tup [.int i,.bl ((j:Int) == 1),flD l],.tup [.int i,.int j,.tup [.str []]]]:List D)=OO at *
  have hOl:OO.length=20:=by rw [← hO]; rfl
  have cmp:=comp OO (by omega)
  have adL:=z4A L0 (OO.map fun x=>.tup (cutL (ws.map cuD) none (some (sp:Int)) ++ [x] ++ cutL (ws.map cuD) (some ((sp:Int) + 1)) none)) (by rw [List.length_map,hOl,hL0l]; omega)
  have hL1:∀ x ∈ L0 ++ (OO.map fun x=>D.tup (cutL (ws.map cuD) none (some (sp:Int)) ++ [x] ++ cutL (ws.map cuD) (some ((sp:Int) + 1)) none)),SW x:=fun x hx=>by
   rcases List.mem_append.mp hx with hx | hx
   ·exact hL0 x hx
   ·obtain ⟨y,hy,rfl⟩:=List.mem_map.mp hx
    refine ⟨by have:=hcl none (some (sp:Int)); have:=hcl (some ((sp:Int) + 1)) none; simp; omega,fun d hd=>?_⟩
    simp only [List.mem_append,List.mem_singleton] at hd
    rcases hd with (hd | rfl) | hd
    ·exact hW d (cutm hd)
    ·exact sO d hy
    ·exact hW d (cutm hd)
  have hL1l:(L0 ++ (OO.map fun x=>D.tup (cutL (ws.map cuD) none (some (sp:Int)) ++ [x] ++ cutL (ws.map cuD) (some ((sp:Int) + 1)) none))).length=32:=by rw [List.length_append,List.length_map,hOl,hL0l]
  generalize (OO.map fun x=>D.tup (cutL (ws.map cuD) none (some (sp:Int)) ++ [x] ++ cutL (ws.map cuD) (some ((sp:Int) + 1)) none))=OM at *
  refine fin (L0 ++ OM) pd2 (some (.pure (.int sp))) (some (.pure (.int i))) (some (.pure (.int j))) (some (.pure (flD l))) (some (.pure (flD g))) (some (.pure (.lst OO))) p2 (by omega) (by omega) hL1 ?_
  have hif:∀ (X:DS) (z:Rs Fl),X (oSt ru (.tup (ws.map cuD)) pd (some (.own (.lst L0))) none none none none none none)=z→(dIf (dTr (eOpF pNe 2 (bOf (eTup aNil)))) X z0N) (oSt ru (.tup (ws.map cuD)) pd (some (.own (.lst L0))) none none none none none none)=z:=fun X z hz=>by
   rw [← hz]
   clear hz
   generalize D.tup (ws.map cuD)=Wd at *
   simp [oSt,dTr,eOpF,eOpN,bVar,hne]
  refine hif _ _ ?_
  clear hif fin comp hL1 sO hL0 st0 hLL hcl hW tx
  refine z0V (δ1:=oSt ru (.tup (ws.map cuD)) pd1 (some (.own (.lst L0))) (some (.pure (.int sp))) none none none none none) (by
   generalize D.tup (ws.map cuD)=Wd at *
   simp [oSt,dAsg,z05,ios,ndup,z0x,evX,bVar,lw,mkA,e1,putA]) ?_
  refine z0V (δ1:=oSt ru (.tup (ws.map cuD)) pd1 (some (.own (.lst L0))) (some (.pure (.int sp))) (some (.pure (.int i))) (some (.pure (.int j))) (some (.pure (flD l))) none none) (by
   generalize D.tup (ws.map cuD)=Wd at *
   generalize flD l=fl at *
   simp [oSt,dAsg,eOpF,eOpN,bVar,xc,gTp,z0i,z1F]) ?_
  refine z0V (δ1:=oSt ru (.tup (ws.map cuD)) pd2 (some (.own (.lst L0))) (some (.pure (.int sp))) (some (.pure (.int i))) (some (.pure (.int j))) (some (.pure (flD l))) (some (.pure (flD g))) none) (by
   generalize D.tup (ws.map cuD)=Wd at *
   generalize flD l=fl at *
   generalize flD g=fg at *
   generalize l.headD []=lh at *
   simp [oSt,dAsg,z05,ios,ndup,z0x,evX,eVar,bVar,y1,y2,y3,eOpF,eOpN,mkA,e2,putA]) ?_
  have A1:=add_int (i:Int) 1
  have A2:=add_int (j:Int) 1
  have A3:=sub_int (i:Int) 1
  generalize (i:Int) + 1=ip at *
  generalize (j:Int) + 1=jp at *
  generalize (i:Int) - 1=im at *
  generalize ((i:Int) == 1)=ib at *
  generalize ((j:Int) == 1)=jb at *
  have rc:=rowC
  have T3:z1Q (.lst ((l.map fun r=>r ++ [r.getD 0 0]).map .str))=some (.pure (flD (l.map fun r=>r ++ [r.getD 0 0]))):=rfl
  have sqL:∀ δ:Dl,δ[7]? = some (some (.pure (flD l)))→iSq (eVar 7) δ = .ok (l.map .str) δ:=fun δ h=>za1 h
  generalize (l.map fun r=>r ++ [r.getD 0 0]).map D.str=RL at *
  generalize flD (l.map fun r=>r ++ [r.getD 0 0])=fr at *
  generalize flD (l ++ cutL l none (some 1))=fa at *
  generalize flD (cutL l none (some 1))=fk at *
  generalize l.map D.str=LS at *
  generalize l.headD []=lh at *
  generalize D.tup (ws.map cuD)=Wd at *
  generalize flD l=fl at *
  generalize flD g=fg at *
  clear e1 e2 xc y2 y3 hne lw
  subst hO
  refine z0V (δ1:=oSt ru Wd pd2 (some (.own (.lst L0))) (some (.pure (.int sp))) (some (.pure (.int i))) (some (.pure (.int j))) (some (.pure fl)) (some (.pure fg)) (some (.own (.lst [.tup [.int ip,.int j,fl],.tup [.int i,.int jp,fl],.tup [.int im,.int j,fl]])))) (by
   simp [oSt,dAsg,eOpF,eOpN,bVar,eVar,A1,A2,A3]) ?_
  have ad3:=fun (X Y:List D) (h:X.length + Y.length≤1000)=>z4A X Y h
  refine z0V (δ1:=oSt ru Wd pd2 (some (.own (.lst L0))) (some (.pure (.int sp))) (some (.pure (.int i))) (some (.pure (.int j))) (some (.pure fl)) (some (.pure fg)) (some (.own (.lst [.tup [.int ip,.int j,fl],.tup [.int i,.int jp,fl],.tup [.int im,.int j,fl],.tup [.int i,.int j,fg],.tup [.int i,.int j],.tup [.int i,.int j,fl,.int 0]])))) (by
   have k:=z4A [.tup [.int ip,.int j,fl],.tup [.int i,.int jp,fl],.tup [.int im,.int j,fl]] [.tup [.int i,.int j,fg],.tup [.int i,.int j],.tup [.int i,.int j,fl,.int 0]] (by simp)
   simp only [List.cons_append,List.nil_append] at k
   simp [oSt,dAsg,eOpF,eOpN,bVar,eVar,k]) ?_
  refine z0V (δ1:=oSt ru Wd pd2 (some (.own (.lst L0))) (some (.pure (.int sp))) (some (.pure (.int i))) (some (.pure (.int j))) (some (.pure fl)) (some (.pure fg)) (some (.own (.lst [.tup [.int ip,.int j,fl],.tup [.int i,.int jp,fl],.tup [.int im,.int j,fl],.tup [.int i,.int j,fg],.tup [.int i,.int j],.tup [.int i,.int j,fl,.int 0],.tup [.int i,.int j,fa],.tup [.int i,.int j,fr],.tup [.int j,.int i,fl]])))) (by
   have k:=z4A [.tup [.int ip,.int j,fl],.tup [.int i,.int jp,fl],.tup [.int im,.int j,fl],.tup [.int i,.int j,fg],.tup [.int i,.int j],.tup [.int i,.int j,fl,.int 0]] [.tup [.int i,.int j,fa],.tup [.int i,.int j,fr],.tup [.int j,.int i,fl]] (by simp)
   simp only [List.cons_append,List.nil_append] at k
   have rc':=rc (some (.own (.lst [.tup [.int ip,.int j,fl],.tup [.int i,.int jp,fl],.tup [.int im,.int j,fl],.tup [.int i,.int j,fg],.tup [.int i,.int j],.tup [.int i,.int j,fl,.int 0]])))
   simp [oSt,dAsg,eOpF,eOpN,bVar,eVar,eSlN,z38,z19,b1,b2,sqL,z0x,clrD]
   rw [rc']
   simp [z20,T3,eVar,bVar,k]) ?_
  refine z0V (δ1:=oSt ru Wd pd2 (some (.own (.lst L0))) (some (.pure (.int sp))) (some (.pure (.int i))) (some (.pure (.int j))) (some (.pure fl)) (some (.pure fg)) (some (.own (.lst [.tup [.int ip,.int j,fl],.tup [.int i,.int jp,fl],.tup [.int im,.int j,fl],.tup [.int i,.int j,fg],.tup [.int i,.int j],.tup [.int i,.int j,fl,.int 0],.tup [.int i,.int j,fa],.tup [.int i,.int j,fr],.tup [.int j,.int i,fl],.tup [.int i,.int j,.lst LS],.tup [.bl ib,.int j,fl],.tup [.int i,.non,fl]])))) (by
   have k:=z4A [.tup [.int ip,.int j,fl],.tup [.int i,.int jp,fl],.tup [.int im,.int j,fl],.tup [.int i,.int j,fg],.tup [.int i,.int j],.tup [.int i,.int j,fl,.int 0],.tup [.int i,.int j,fa],.tup [.int i,.int j,fr],.tup [.int j,.int i,fl]] [.tup [.int i,.int j,.lst LS],.tup [.bl ib,.int j,fl],.tup [.int i,.non,fl]] (by simp)
   simp only [List.cons_append,List.nil_append] at k
   simp [oSt,dAsg,eOpF,eOpN,bVar,eVar,b3,eq1,k]) ?_
  refine z0V (δ1:=oSt ru Wd pd2 (some (.own (.lst L0))) (some (.pure (.int sp))) (some (.pure (.int i))) (some (.pure (.int j))) (some (.pure fl)) (some (.pure fg)) (some (.own (.lst [.tup [.int ip,.int j,fl],.tup [.int i,.int jp,fl],.tup [.int im,.int j,fl],.tup [.int i,.int j,fg],.tup [.int i,.int j],.tup [.int i,.int j,fl,.int 0],.tup [.int i,.int j,fa],.tup [.int i,.int j,fr],.tup [.int j,.int i,fl],.tup [.int i,.int j,.lst LS],.tup [.bl ib,.int j,fl],.tup [.int i,.non,fl],.lst [.int i,.int j,fl],.non,.tup [.int i,.int j,.tup [.str [65]]]])))) (by
   have k:=z4A [.tup [.int ip,.int j,fl],.tup [.int i,.int jp,fl],.tup [.int im,.int j,fl],.tup [.int i,.int j,fg],.tup [.int i,.int j],.tup [.int i,.int j,fl,.int 0],.tup [.int i,.int j,fa],.tup [.int i,.int j,fr],.tup [.int j,.int i,fl],.tup [.int i,.int j,.lst LS],.tup [.bl ib,.int j,fl],.tup [.int i,.non,fl]] [.lst [.int i,.int j,fl],.non,.tup [.int i,.int j,.tup [.str [65]]]] (by simp)
   simp only [List.cons_append,List.nil_append] at k
   simp [oSt,dAsg,eOpF,eOpN,bVar,eVar,k]) ?_
  refine z0V (δ1:=oSt ru Wd pd2 (some (.own (.lst L0))) (some (.pure (.int sp))) (some (.pure (.int i))) (some (.pure (.int j))) (some (.pure fl)) (some (.pure fg)) (some (.own (.lst [.tup [.int ip,.int j,fl],.tup [.int i,.int jp,fl],.tup [.int im,.int j,fl],.tup [.int i,.int j,fg],.tup [.int i,.int j],.tup [.int i,.int j,fl,.int 0],.tup [.int i,.int j,fa],.tup [.int i,.int j,fr],.tup [.int j,.int i,fl],.tup [.int i,.int j,.lst LS],.tup [.bl ib,.int j,fl],.tup [.int i,.non,fl],.lst [.int i,.int j,fl],.non,.tup [.int i,.int j,.tup [.str [65]]],.tup [.int i,.int j,.tup []],.tup [.int i,.int j,.non],.tup [.int i,.int j,.str lh],.tup [.int i,.bl jb,fl],.tup [.int i,.int j,.tup [.str []]]])))) (by
   have k:=z4A [.tup [.int ip,.int j,fl],.tup [.int i,.int jp,fl],.tup [.int im,.int j,fl],.tup [.int i,.int j,fg],.tup [.int i,.int j],.tup [.int i,.int j,fl,.int 0],.tup [.int i,.int j,fa],.tup [.int i,.int j,fr],.tup [.int j,.int i,fl],.tup [.int i,.int j,.lst LS],.tup [.bl ib,.int j,fl],.tup [.int i,.non,fl],.lst [.int i,.int j,fl],.non,.tup [.int i,.int j,.tup [.str [65]]]] [.tup [.int i,.int j,.tup []],.tup [.int i,.int j,.non],.tup [.int i,.int j,.str lh],.tup [.int i,.bl jb,fl],.tup [.int i,.int j,.tup [.str []]]] (by simp)
   simp only [List.cons_append,List.nil_append] at k
   simp [oSt,dAsg,eOpF,eOpN,bVar,eVar,y1,eq2,k]) ?_
  generalize ([.tup [.int ip,.int j,fl],.tup [.int i,.int jp,fl],.tup [.int im,.int j,fl],.tup [.int i,.int j,fg],.tup [.int i,.int j],.tup [.int i,.int j,fl,.int 0],.tup [.int i,.int j,fa],.tup [.int i,.int j,fr],.tup [.int j,.int i,fl],.tup [.int i,.int j,.lst LS],.tup [.bl ib,.int j,fl],.tup [.int i,.non,fl],.lst [.int i,.int j,fl],.non,.tup [.int i,.int j,.tup [.str [65]]],.tup [.int i,.int j,.tup []],.tup [.int i,.int j,.non],.tup [.int i,.int j,.str lh],.tup [.int i,.bl jb,fl],.tup [.int i,.int j,.tup [.str []]]]:List D)=OO at *
  simp [oSt,dAsg,eOpF,eOpN,bVar,z3r,eVar,z0x,clrD]
  rw [cmp]
  simp [z20,adL]
theorem r_odd {h w:Nat} {bs:List (Nat×List Tx)} (R:Rul h w bs) (ws:List Cu) (hw:ws.length≤5) (hws:∀ x ∈ ws,FO x.2.2) {pd:D} (hpd:Pen pd) :
  ∃ x pd',z1s [.own pd,.pure (ruD h w bs),.pure (.tup (ws.map cuD))]=some (.pure x,[.own pd',.pure (ruD h w bs),.pure (.tup (ws.map cuD))])∧SW x∧Pen pd':=by
 rw [z1s,z3H]
 exact q_odd z0I z0d z7v _ (fun A C pd hA hC hp=>zdP R A C hA hC hp) ws hw hws hpd
open L2 DV
open PySem (sizeLine)
theorem zeS (n:Nat):FO [[n]]:=⟨by simp,by simp,by simp,by simp,by simp⟩
abbrev B3_ (GB GD GF GI GL GN GO GP GR GT GW:DF):DS:=dSeq (dAsg (z05 GN [.val (eVar 1)]) (gNm [] 2)) (dSeq (dAsg (z05 GR [.io 2,.val (eD (.int 4))]) (gNm [] 3)) (dSeq (dAsg (z05 GT [.val (eVar 3)]) (gNm [] 4)) (dSeq (dAsg (eOpF pIx 4 (bOf (z05 GD [.io 2,.val (eC1 pLen (bVar 4))]))) (gNm [] 5)) (dSeq (dAsg (z05 GB [.io 2,.val (eVar 3),.val (eVar 5)]) (gTp 3 (z0i (gNm [] 6) (z0i (gNm [] 7) (z0i (gNm [] 8) z1F))))) (dSeq (dIf (dOr (dTr (eOp (pIsB true) (z05 GW [.val (eVar 3),.val (eVar 5),.val (eVar 6),.val (eVar 7)]) (bOf (eD (.bl true))))) (dTr (eOp pNe (z05 GP [.val (eVar 3),.val (eVar 7)]) (bVar 8)))) (dRet (eD (.bl false))) z0N) (dSeq (dIf (dTr (eOp pNe (z05 GF [.val (eVar 3),.val (eVar 5),.val (eOpF pIx 8 (bOf (eD (.int 0)))),.val (eOpF pIx 8 (bOf (eD (.int 1)))),.val (eOpF pIx 8 (bOf (eD (.int 2)))),.val (eC1 pLen (bVar 6)),.val (eC1 pLen (bOf (eOpF pIx 6 (bOf (eD (.int 0))))))]) (bVar 6))) (dRet (eD (.bl false))) z0N) (dSeq (dFor (z0S (eD (.int 4))) (gNm [] 9) (dIf (dNot (dTr (z05 GI [.val (eVar 3),.val (eVar 5),.val (eVar 6),.val (z05 GO [.io 2,.val (eVar 3),.val (eVar 7)])]))) (dRet (eD (.bl false))) z0N)) (dSeq (dIf (dOr (dNot (dTr (z05 GI [.val (eVar 3),.val (eOpF pIx 4 (bOf (eD (.int 0)))),.val (eVar 6),.val (eVar 7)]))) (dNot (dTr (z05 GI [.val (eVar 3),.val (eVar 5),.val (eTup (z09 (eOpF pIx 4 (bOf (eC1 pNeg (bOf (eD (.int 1)))))) aNil)),.val (eVar 7)])))) (dRet (eD (.bl false))) z0N) (dSeq (dAsg (z05 GP [.val (eVar 3),.val (eVar 7)]) (gNm [] 10)) (dIf (dOr (dNot (dTr (eIsi "tuple" (bVar 10)))) (dNot (dTr (eC1 pAll (bOf (z28 [11] (iSq (eVar 10)) (gNm [] 11) dYes (z05 GL [.val (eVar 11)]))))))) (dRet (eD (.bl false))) z0N))))))))))
theorem q_law (GC GN GR GT GD GB GW GP GF GI GO GL:DF) (hd:z5j GD) (gn:∀ c:Int,∃ d,GN [.pure (.int c)]=some (.own d,[.pure (.int c)])∧Pen d)
  (gr:∀ d,Pen d→∃ (h w:Nat) (bs:List (Nat×List Tx)) (d':D),GR [.own d,.pure (.int 4)]=some (.pure (ruD h w bs),[.own d',.pure (.int 4)])∧Rul h w bs∧Pen d')
  (gt:∀ h w bs,Rul h w bs→GT [.pure (ruD h w bs)]=some (.own (.lst ((bs.map (·.1)).map t1D)),[.pure (ruD h w bs)]))
  (gb:∀ h w bs n d,Rul h w bs→n ∈ bs.map (·.1)→Pen d→∃ (f:List Tx) (ws:List Cu) (t r c A C:Nat) (pd':D),GB [.own d,.pure (ruD h w bs),.pure (.str [n])]=some (.pure (.tup [flD f,.tup (ws.map cuD),.tup [.int (t:Nat),.int (r:Nat),.int (c:Nat)]]),[.own pd',.pure (ruD h w bs),.pure (.str [n])])∧Bt h w bs n f ws t r c A C∧t≤5∧Pen pd')
  (gw:∀ h w bs n f th,Rul h w bs→FO f→SW th→GW [.pure (ruD h w bs),.pure (.str [n]),.pure (flD f),.pure th]=some (.pure (.bl (wayV h w bs n f th)),[.pure (ruD h w bs),.pure (.str [n]),.pure (flD f),.pure th]))
  (gi:∀ h w bs n f th,Rul h w bs→FO f→SW th→GI [.pure (ruD h w bs),.pure (.str [n]),.pure (flD f),.pure th]=some (.pure (.bl true),[.pure (ruD h w bs),.pure (.str [n]),.pure (flD f),.pure th]))
  (gp:∀ h w bs (ws:List Cu),Rul h w bs→GP [.pure (ruD h w bs),.pure (.tup (ws.map cuD))]=some (.pure (.tup [.int (ws.length:Int),.int ((ws.reverse.foldl (plS h w) (0,0)).1:Int),.int ((ws.reverse.foldl (plS h w) (0,0)).2:Int)]),[.pure (ruD h w bs),.pure (.tup (ws.map cuD))]))
  (gf:∀ h w bs (n t r c A C:Nat),Rul h w bs→n ∈ bs.map (·.1)→t≤60→0 < A→0 < C→r + A≤h ^ t→c + C≤w ^ t→A≤64→C≤64→GF [.pure (ruD h w bs),.pure (.str [n]),.pure (.int t),.pure (.int r),.pure (.int c),.pure (.int A),.pure (.int C)]=some (.pure (flD (grid (fun i j=>far h w bs n t (r + i) (c + j)) A C)),[.pure (ruD h w bs),.pure (.str [n]),.pure (.int t),.pure (.int r),.pure (.int c),.pure (.int A),.pure (.int C)]))
  (go:∀ h w bs (ws:List Cu) d,Rul h w bs→ws.length≤5→(∀ x ∈ ws,FO x.2.2)→Pen d→∃ x d',GO [.own d,.pure (ruD h w bs),.pure (.tup (ws.map cuD))]=some (.pure x,[.own d',.pure (ruD h w bs),.pure (.tup (ws.map cuD))])∧SW x∧Pen d')
  (gl:∀ d,GL [.pure d]=some (.pure (.bl (isI d)),[.pure d]))
  (ns:List Int) (hn:ns.length≤63) (gc:∃ c:Int,GC [.pure (.lst (ns.map .int)),.pure (.int 0)]=some (.pure (.int c),[.pure (.lst (ns.map .int)),.pure (.int 0)])) :
  ∃ outs,gOf [] 12 (dSeq (dFor (iSq (eOp pAdd (eLst (z09 (z05 GC [.val (eVar 0),.val (eD (.int 0))]) aNil)) (bOf (eSlN 0 (z19 (eD (.int 1))) (z19 (eD (.int 4))))))) (gNm [] 1) (B3_ GB GD GF GI GL GN GO GP GR GT GW)) (dRet (eD (.bl true)))) [.pure (.lst (ns.map .int))]=some (.pure (.bl true),outs):=by
 obtain ⟨c0,e0⟩:=gc
 generalize hS:D.lst (ns.map .int)=scr at e0 ⊢
 have hcut:cutL (ns.map D.int) (some 1) (some 4)=(cutL ns (some 1) (some 4)).map .int:=z4W _ _ _ _
 have r4:∀ δ:Dl,rng (.pure (.int 4)) δ = .ok (z1g 0 4) δ:=z4d 4 (by decide)
 obtain ⟨δ2,ef2,o1,o2,o3,o4,o5,o6,o7,o8,o9,o10,rfl⟩:=z2d (g:=(gNm [] 1)) (b:=(B3_ GB GD GF GI GL GN GO GP GR GT GW)) (fun _ δ=>∃ o1 o2 o3 o4 o5 o6 o7 o8 o9 o10,δ=[some (.pure scr),o1,o2,o3,o4,o5,o6,o7,o8,o9,o10,none]) ((c0 :: cutL ns (some 1) (some 4)).map D.int) 0 [some (.pure scr),none,none,none,none,none,none,none,none,none,none,none] ⟨_,_,_,_,_,_,_,_,_,_,rfl⟩ (fun i d δ hdd ⟨o1,o2,o3,o4,o5,o6,o7,o8,o9,o10,e⟩=>by
   subst e
   simp only [List.getElem?_map,Option.map_eq_some_iff] at hdd
   obtain ⟨k,_,rfl⟩:=hdd
   obtain ⟨d1,e1,p1⟩:=gn k
   obtain ⟨h,w,bs,d2,e2,R,p2⟩:=gr d1 p1
   have e3:=gt h w bs R
   have n0:=R.n0
   have n1:=R.n1
   have tl:((bs.map (·.1)).map t1D).length=bs.length:=by simp
   obtain ⟨a7,d3,f7,l7,p3⟩:=hd d2 bs.length p2 n0 (by omega)
   have l7':a7 < (bs.map (·.1)).length:=by simpa using l7
   have hm:(bs.map (·.1)).getD a7 0 ∈ bs.map (·.1):=by
    rw [List.getD_eq_getElem?_getD,List.getElem?_eq_getElem l7']
    exact List.getElem_mem l7'
   have hx7:pIx (.lst ((bs.map (·.1)).map t1D)) (.int a7)=some (.pure (.str [(bs.map (·.1)).getD a7 0])):=by
    simp [pIx,z2N,l7]
   obtain ⟨f,ws,t,r,c,A,C,d4,e4,B,ht,p4⟩:=gb h w bs _ d3 R hm p3
   obtain ⟨Of,lf,hf⟩:=z7o (fun a b=>far h w bs ((bs.map (·.1)).getD a7 0) t (r + a) (c + b)) (A:=A) (C:=C) B.a0 (by have:=B.a1; omega) B.c0 (by have:=B.c1; omega)
   rw [← B.fl] at Of lf hf
   have sW:SW (.tup (ws.map cuD)):=⟨by simp [B.tl]; omega,fun d hd=>by
    obtain ⟨x,hx,rfl⟩:=List.mem_map.mp hd
    exact (B.le x hx).2.2.sm⟩
   have w1:=gw h w bs ((bs.map (·.1)).getD a7 0) f (.tup (ws.map cuD)) R Of sW
   have wv:wayV h w bs ((bs.map (·.1)).getD a7 0) f (.tup (ws.map cuD))=true:=by
    show (match walk h w bs f (ws.map cuD) with | some g=>eqD (flD g) (flD [[(bs.map (·.1)).getD a7 0]]) | none=>false)=true
    rw [B.wk]
    exact z49 (z3W 49 _)
   rw [wv] at w1
   have w2:=gp h w bs ws R
   rw [B.pl,B.tl] at w2
   have w3:pNe (.tup [.int (t:Int),.int (r:Int),.int (c:Int)]) (.tup [.int (t:Int),.int (r:Int),.int (c:Int)])=some (.pure (.bl false)):=by simp [pNe,flat,z4r,eqD,eqDs]
   have w4:=gf h w bs ((bs.map (·.1)).getD a7 0) t r c A C R hm (by omega) B.a0 B.c0 B.rr B.cc (by have:=B.a1; omega) (by have:=B.c1; omega)
   rw [← B.fl] at w4
   have w5:pNe (flD f) (flD f)=some (.pure (.bl false)):=by
    unfold pNe
    rw [z3W 49 f,z49 (z3W 49 f)]
    rfl
   obtain ⟨y1,y2,y3⟩:=Of.head
   rw [lf] at y3
   rw [hf] at y2
   obtain ⟨nl,hlast⟩:∃ nl,pIx (.lst ((bs.map (·.1)).map t1D)) (.int (-1))=some (.pure (.str [nl])):=by
    have:atI ((bs.map (·.1)).map t1D) (-1)=((bs.map (·.1)).map t1D)[((bs.map (·.1)).map t1D).length - 1]?:=by
     unfold atI ixN
     rw [if_neg (by omega),if_pos (by rw [tl]; omega)]
     have e:(-1 + (((bs.map (·.1)).map t1D).length:Int)).toNat=((bs.map (·.1)).map t1D).length - 1:=by rw [tl]; omega
     simp only [Option.bind_some,e]
    refine ⟨(bs.map (·.1)).getD (bs.length - 1) 0,?_⟩
    have hlt:bs.length - 1 < bs.length:=by omega
    have hx:((bs.map (·.1)).map t1D)[bs.length - 1]? = some (.str [(bs.map (·.1)).getD (bs.length - 1) 0]):=by simp [hlt]
    rw [tl,hx] at this
    simp only [pIx,this,Option.map_some]
   obtain ⟨nf,hfirst⟩:∃ nf,pIx (.lst ((bs.map (·.1)).map t1D)) (.int 0)=some (.pure (.str [nf])):=by
    cases bs with
    | nil=>simp at n0
    | cons b q=>exact ⟨b.1,by simp [pIx,z2f]⟩
   have i1:=gi h w bs nf f (.tup (ws.map cuD)) R Of sW
   have i2:=gi h w bs ((bs.map (·.1)).getD a7 0) [[nl]] (.tup (ws.map cuD)) R (zeS nl) sW
   have i2d:D.tup [.str [nl]]=flD [[nl]]:=rfl
   obtain ⟨δ4,ef4,d5,o9',p5,rfl⟩:=z2d (g:=gNm [] 9) (b:=(dIf (dNot (dTr (z05 GI [.val (eVar 3),.val (eVar 5),.val (eVar 6),.val (z05 GO [.io 2,.val (eVar 3),.val (eVar 7)])]))) (dRet (eD (.bl false))) z0N)) (fun _ δ=>∃ (pd:D) (o9:Option S),Pen pd∧δ=[some (.pure scr),some (.pure (.int k)),some (.own pd),some (.pure (ruD h w bs)),some (.own (.lst ((bs.map (·.1)).map t1D))),some (.pure (.str [(bs.map (·.1)).getD a7 0])),some (.pure (flD f)),some (.pure (.tup (ws.map cuD))),some (.pure (.tup [.int t,.int r,.int c])),o9,o10,none]) (z1g 0 4) 0 [some (.pure scr),some (.pure (.int k)),some (.own d4),some (.pure (ruD h w bs)),some (.own (.lst ((bs.map (·.1)).map t1D))),some (.pure (.str [(bs.map (·.1)).getD a7 0])),some (.pure (flD f)),some (.pure (.tup (ws.map cuD))),some (.pure (.tup [.int t,.int r,.int c])),o9,o10,none] ⟨d4,o9,p4,rfl⟩ (fun i d δ hdd ⟨pd,o9,hpd,e⟩=>by
    subst e
    obtain ⟨hi,rfl⟩:=z1H hdd
    obtain ⟨x,d6,e6,sx,p6⟩:=go h w bs ws pd R (by rw [B.tl]; omega) (fun x hx=>(B.le x hx).2.2) hpd
    have i3:=gi h w bs ((bs.map (·.1)).getD a7 0) f x R Of sx
    refine ⟨_,[some (.pure scr),some (.pure (.int k)),some (.own d6),some (.pure (ruD h w bs)),some (.own (.lst ((bs.map (·.1)).map t1D))),some (.pure (.str [(bs.map (·.1)).getD a7 0])),some (.pure (flD f)),some (.pure (.tup (ws.map cuD))),some (.pure (.tup [.int t,.int r,.int c])),some (.pure (.int i)),o10,none],rfl,?_,d6,_,p6,rfl⟩
    generalize (bs.map (·.1)).getD a7 0=nm at *
    generalize (bs.map (·.1)).map t1D=TS at *
    generalize ruD h w bs=ru at *
    generalize flD f=ff at *
    generalize D.tup (ws.map cuD)=wd at *
    generalize D.tup [.int t,.int r,.int c]=pld at *
    simp [dTr,z05,ios,ndup,z0x,evX,eVar,mkA,e6,i3,putA])
   have pl0:pIx (.tup [.int (t:Int),.int (r:Int),.int (c:Int)]) (.int 0)=some (.pure (.int t)):=ix30 _ _ _
   have pl1:pIx (.tup [.int (t:Int),.int (r:Int),.int (c:Int)]) (.int 1)=some (.pure (.int r)):=ix31 _ _ _
   have pl2:pIx (.tup [.int (t:Int),.int (r:Int),.int (c:Int)]) (.int 2)=some (.pure (.int c)):=ix32 _ _ _
   have isb:pIsB true (.bl true) (.bl true)=some (.pure (.bl false)):=rfl
   have sq:∀ δ:Dl,δ[10]? = some (some (.pure (.tup [.int (t:Int),.int (r:Int),.int (c:Int)])))→iSq (eVar 10) δ = .ok [.int (t:Int),.int (r:Int),.int (c:Int)] δ:=fun δ h=>za1 h
   have lens:pLen (.lst ((bs.map (·.1)).map t1D))=some (.pure (.int (bs.length:Int))):=by
    show some (S.pure (.int (((bs.map (·.1)).map t1D).length:Int)))=_
    rw [tl]
   have ec:=zb8 (cs:=[11]) (g:=gNm [] 11) (el:=z05 GL [.val (eVar 11)]) [some (.pure scr),some (.pure (.int k)),some (.own d5),some (.pure (ruD h w bs)),some (.own (.lst ((bs.map (·.1)).map t1D))),some (.pure (.str [(bs.map (·.1)).getD a7 0])),some (.pure (flD f)),some (.pure (.tup (ws.map cuD))),some (.pure (.tup [.int t,.int r,.int c])),o9',some (.pure (.tup [.int t,.int r,.int c])),none] [.int (t:Int),.int (r:Int),.int (c:Int)] (by simp) (fun d hd=>by
    have hI:isI d=true:=by
     simp only [List.mem_cons,List.not_mem_nil,or_false] at hd
     rcases hd with rfl | rfl | rfl <;> rfl
    have g1:=gl d
    rw [hI] at g1
    refine ⟨_,[some (.pure scr),some (.pure (.int k)),some (.own d5),some (.pure (ruD h w bs)),some (.own (.lst ((bs.map (·.1)).map t1D))),some (.pure (.str [(bs.map (·.1)).getD a7 0])),some (.pure (flD f)),some (.pure (.tup (ws.map cuD))),some (.pure (.tup [.int t,.int r,.int c])),o9',some (.pure (.tup [.int t,.int r,.int c])),some (.pure d)],rfl,?_,rfl⟩
    generalize (bs.map (·.1)).getD a7 0=nm at *
    generalize (bs.map (·.1)).map t1D=TS at *
    generalize ruD h w bs=ru at *
    generalize flD f=ff at *
    generalize D.tup (ws.map cuD)=wd at *
    generalize D.tup [.int t,.int r,.int c]=pld at *
    simp [z05,ios,ndup,z0x,evX,eVar,mkA,g1,putA])
   have ea:=zc1 [.int (t:Int),.int (r:Int),.int (c:Int)]
   have ty:isTy "tuple" (.tup [.int (t:Int),.int (r:Int),.int (c:Int)])=true:=rfl
   refine ⟨_,[some (.pure scr),some (.pure (.int k)),some (.own d5),some (.pure (ruD h w bs)),some (.own (.lst ((bs.map (·.1)).map t1D))),some (.pure (.str [(bs.map (·.1)).getD a7 0])),some (.pure (flD f)),some (.pure (.tup (ws.map cuD))),some (.pure (.tup [.int t,.int r,.int c])),o9',some (.pure (.tup [.int t,.int r,.int c])),none],rfl,?_,_,_,_,_,_,_,_,_,_,_,rfl⟩
   clear gn gr gt gb gw gi gp gf go gl
   generalize hcl:(([.int (t:Int),.int (r:Int),.int (c:Int)]:List D).map fun _=>D.bl true)=BL at *
   generalize (bs.map (·.1)).getD a7 0=nm at *
   generalize (bs.map (·.1)).map t1D=TS at *
   generalize ruD h w bs=ru at *
   generalize flD f=ff at *
   generalize f.headD []=fh at *
   rw [← i2d] at i2
   generalize D.tup (ws.map cuD)=wd at *
   generalize D.tup [.int (t:Int),.int (r:Int),.int (c:Int)]=pld at *
   simp [dAsg,z05,ios,ndup,z0x,evX,eVar,mkA,e1,e2,e3,putA,bVar,lens,f7,eOpF,eOpN,hx7,e4,gTp,z0i,z1F,dTr,w1,isb,w2,w3,y1,y2,y3,pl0,pl1,pl2,w4,w5,r4]
   rw [ef4]
   simp [z05,ios,ndup,z0x,evX,eVar,mkA,putA,bVar,eOpF,eOpN,dTr,hfirst,i1,pNeg,hlast,i2,dAsg,w2,eIsi,ty,sq,clrD]
   rw [ec]
   simp [z20,ea])
 have hsl:pSl (some 1) (some 4) scr=some (.own (.lst (cutL (ns.map .int) (some 1) (some 4)))):=by rw [← hS]; rfl
 have ha:pAdd (.lst [.int c0]) (.lst (cutL (ns.map .int) (some 1) (some 4)))=some (.own (.lst ((c0 :: cutL ns (some 1) (some 4)).map .int))):=by
  rw [hcut]
  have hl:(cutL ns (some 1) (some 4)).length≤63:=by
   have:=z4X ns (some 1) (some 4)
   omega
  simp only [pAdd]
  rw [if_pos (by rw [z1L]; simp; omega)]
  simp
 refine ⟨[.pure scr],?_⟩
 rw [z0T]
 simp only [List.map_cons] at ef2 ha
 simp [ioOk,z0h,z3r,z05,ios,ndup,z0x,evX,eVar,mkA,e0,putA,eSlN,z19,bVar,hsl,ha]
 rw [ef2]
 simp [z0y,z0f]
theorem r_law (ns:List Int) (hn:ns.length≤63):∃ outs,G_law [.pure (.lst (ns.map .int))]=some (.pure (.bl true),outs):=by
 rw [G_law,zdv]
 exact q_law z1c z1r z0R z0q z0d z1J z16 z1O z2T z1b z1s z0M z7v r_pen
  (fun d hp=>by obtain ⟨h,w,bs,d',e,R,_,p⟩:=zaj hp 4 (by decide) (by decide); exact ⟨h,w,bs,d',e,R,p⟩) (fun h w bs R=>z56 R) (fun h w bs n d R hn hp=>zcP R hn hp)
  (fun h w bs n f th R O hs=>zdN R n f O th hs) (fun h w bs n f th R O hs=>zcM R n f O th hs) (fun h w bs ws R=>z9C R ws) (fun h w bs n t r c A C R hn ht a0 c0 hr hc ha hcc=>zam R hn ht a0 c0 hr hc ha hcc)
  (fun h w bs ws d R hw hws hp=>r_odd R ws hw hws hp) zai ns hn (z8B ns)
end K42
open PySem PySem.W PyProof.Rows
set_option Elab.async false
def PySem.W.Fast.tw1034266239380590796:Nat:=0
def PySem.W.Fast.tw10102758720088233640:Nat:=0
def PySem.W.Fast.tw12351958275662646964:Nat:=0
def PySem.W.Fast.tw7079391719035083791:Nat:=0
def PySem.W.Fast.tw9667661994779003300:Nat:=0
def PySem.W.Fast.tw13636664484121932425:Nat:=0
def PySem.W.Fast.tw5749495585342334715:Nat:=0
def PySem.W.Fast.tw3330509298758868332:Nat:=0
def PySem.W.Fast.tw14991546448679613655:Nat:=0
def PySem.W.Fast.tw5638754418822068841:Nat:=0
def PySem.W.Fast.tw2403032014536344593:Nat:=0
def PySem.W.Fast.tw14826386815019383771:Nat:=0
def PySem.W.Fast.tw961056968326676884:Nat:=0
def PySem.W.Fast.tw5667038320470947745:Nat:=0
def PySem.W.Fast.tw14158241053513686762:Nat:=0
def PySem.W.Fast.tw17778094274732869794:Nat:=0
def PySem.W.Fast.tw7714689691611766656:Nat:=0
def PySem.W.Fast.tw944113473214039139:Nat:=0
def PySem.W.Fast.tw5881856733664418876:Nat:=0
def PySem.W.Fast.tw11508034522426942611:Nat:=0
def PySem.W.Fast.tw13052051088176300118:Nat:=0
def PySem.W.Fast.tw13019463883559304593:Nat:=0
def PySem.W.Fast.tw9276141323250913291:Nat:=0
def PySem.W.Fast.tw13077381216285034965:Nat:=0
def PySem.W.Fast.tw8268215470651597628:Nat:=0
def PySem.W.Fast.tw6795040521986340038:Nat:=0
def PySem.W.Fast.tw1456128792660247695:Nat:=0
def PySem.W.Fast.tw4822478546502273308:Nat:=0
def PySem.W.Fast.tw7110611448413100286:Nat:=0
def PySem.W.Fast.tw14324900163887091139:Nat:=0
def PySem.W.Fast.tw1604328751510652840:Nat:=0
def PySem.W.Fast.tw13855226926525301195:Nat:=0
set_option maxRecDepth 100000 in
set_option maxHeartbeats 0 in
theorem PySem.Challenge.cw_tilegrow_k42_ways_by_anybody_holds : PySem.Challenge.rw_tilegrow_k42_ways_by_anybody.Holds := by
 w_on; o_law; k_head; (case hw=>w_witness2)
 k_fill
 refine DV.walkD (l:=PySem.Challenge.rw_tilegrow_k42_ways_by_anybody) (k:=6) (G:=K42.G_law) rfl rfl ⟨rfl,by decide,by decide⟩ (fun w h Y=>PySem.W.kIn_of Y) ?L K42.r_law ?F
 case L=>intro p; exact Eq.refl true
 case F =>
  intro w mg fa h KX G hmg
  refine' K42.all_mk KX G hmg ?a0 ?l0 ?c0 ?k0 ?a1 ?l1 ?c1 ?k1 ?a2 ?l2 ?c2 ?k2 ?a3 ?l3 ?c3 ?k3 ?a4 ?l4 ?c4 ?k4 ?a5 ?l5 ?c5 ?k5 ?a6 ?l6 ?c6 ?k6 ?a7 ?l7 ?c7 ?k7 ?a8 ?l8 ?c8 ?k8 ?a9 ?l9 ?c9 ?k9 ?a10 ?l10 ?c10 ?k10 ?a11 ?l11 ?c11 ?k11 ?a12 ?l12 ?c12 ?k12 ?a13 ?l13 ?c13 ?k13 ?a14 ?l14 ?c14 ?k14 ?a15 ?l15 ?c15 ?k15 ?a16 ?l16 ?c16 ?k16 ?a17 ?l17 ?c17 ?k17 ?a18 ?l18 ?c18 ?k18 ?a19 ?l19 ?c19 ?k19 ?a20 ?l20 ?c20 ?k20 ?a21 ?l21 ?c21 ?k21 ?a22 ?l22 ?c22 ?k22 ?a23 ?l23 ?c23 ?k23 ?a24 ?l24 ?c24 ?k24 ?a25 ?l25 ?c25 ?k25 ?a26 ?l26 ?c26 ?k26 ?a27 ?l27 ?c27 ?k27 ?a28 ?l28 ?c28 ?k28 ?a29 ?l29 ?c29 ?k29 ?a30 ?l30 ?c30 ?k30 ?a31 ?l31 ?c31 ?k31 ?a32 ?l32 ?c32 ?k32 ?a33 ?l33 ?c33 ?k33 ?a34 ?l34 ?c34 ?k34 ?z_all ?z_bool ?z_dict ?z_int ?z_isinstance ?z_len ?z_list ?z_max ?z_min ?z_range ?z_str ?z_tuple ?g_MOST_GROWINGS ?g_MOST_TILES
  (case a0=>k_is); (case l0=>k_is); (case c0=>k_is); (case k0=>k_is); (case a1=>k_is); (case l1=>k_is); (case c1=>k_is); (case k1=>k_is)
  (case a2=>k_is); (case l2=>k_is); (case c2=>k_is); (case k2=>k_is); (case a3=>k_is); (case l3=>k_is); (case c3=>k_is); (case k3=>k_is)
  (case a4=>k_is); (case l4=>k_is); (case c4=>k_is); (case k4=>k_is); (case a5=>k_is); (case l5=>k_is); (case c5=>k_is); (case k5=>k_is)
  (case a6=>k_is); (case l6=>k_is); (case c6=>k_is); (case k6=>k_is); (case a7=>k_is); (case l7=>k_is); (case c7=>k_is); (case k7=>k_is)
  (case a8=>k_is); (case l8=>k_is); (case c8=>k_is); (case k8=>k_is); (case a9=>k_is); (case l9=>k_is); (case c9=>k_is); (case k9=>k_is)
  (case a10=>k_is); (case l10=>k_is); (case c10=>k_is); (case k10=>k_is); (case a11=>k_is); (case l11=>k_is); (case c11=>k_is); (case k11=>k_is)
  (case a12=>k_is); (case l12=>k_is); (case c12=>k_is); (case k12=>k_is); (case a13=>k_is); (case l13=>k_is); (case c13=>k_is); (case k13=>k_is)
  (case a14=>k_is); (case l14=>k_is); (case c14=>k_is); (case k14=>k_is); (case a15=>k_is); (case l15=>k_is); (case c15=>k_is); (case k15=>k_is)
  (case a16=>k_is); (case l16=>k_is); (case c16=>k_is); (case k16=>k_is); (case a17=>k_is); (case l17=>k_is); (case c17=>k_is); (case k17=>k_is)
  (case a18=>k_is); (case l18=>k_is); (case c18=>k_is); (case k18=>k_is); (case a19=>k_is); (case l19=>k_is); (case c19=>k_is); (case k19=>k_is)
  (case a20=>k_is); (case l20=>k_is); (case c20=>k_is); (case k20=>k_is); (case a21=>k_is); (case l21=>k_is); (case c21=>k_is); (case k21=>k_is)
  (case a22=>k_is); (case l22=>k_is); (case c22=>k_is); (case k22=>k_is); (case a23=>k_is); (case l23=>k_is); (case c23=>k_is); (case k23=>k_is)
  (case a24=>k_is); (case l24=>k_is); (case c24=>k_is); (case k24=>k_is); (case a25=>k_is); (case l25=>k_is); (case c25=>k_is); (case k25=>k_is)
  (case a26=>k_is); (case l26=>k_is); (case c26=>k_is); (case k26=>k_is); (case a27=>k_is); (case l27=>k_is); (case c27=>k_is); (case k27=>k_is)
  (case a28=>k_is); (case l28=>k_is); (case c28=>k_is); (case k28=>k_is); (case a29=>k_is); (case l29=>k_is); (case c29=>k_is); (case k29=>k_is)
  (case a30=>k_is); (case l30=>k_is); (case c30=>k_is); (case k30=>k_is); (case a31=>k_is); (case l31=>k_is); (case c31=>k_is); (case k31=>k_is)
  (case a32=>k_is); (case l32=>k_is); (case c32=>k_is); (case k32=>k_is); (case a33=>k_is); (case l33=>k_is); (case c33=>k_is); (case k33=>k_is)
  (case a34=>k_is); (case l34=>k_is); (case c34=>k_is); (case k34=>k_is); (case z_all=>k_is); (case z_bool=>k_is); (case z_dict=>k_is); (case z_int=>k_is)
  (case z_isinstance=>k_is); (case z_len=>k_is); (case z_list=>k_is); (case z_max=>k_is); (case z_min=>k_is); (case z_range=>k_is); (case z_str=>k_is); (case z_tuple=>k_is)
  (case g_MOST_GROWINGS=>k_is); (case g_MOST_TILES=>k_is)
