import PyProof.Rows.All
import Wide.All
import OpenK.AllK
import Wide.FinOn
import Lean
import PyProof.EqAt
import PyProof.EqKinds
import PyProof.TupleCall
import PySem.Challenge.RW_waysum_k15_each_refusal_its_own
set_option linter.all false
set_option Elab.async false
set_option maxHeartbeats 4000000
set_option maxRecDepth 100000
set_option Elab.async false
set_option linter.all false
set_option maxRecDepth 100000
namespace L2
open PySem PySem.Spec PyProof.Rows
abbrev Key:=Sum Int Str
def keyIs:Key→Value→Bool
 | .inl k,v=>Value.isInt k v
 | .inr x,v=>Value.isStrOf x v
def keyH (w:World):Key→Int
 | .inl k=>hashInt k
 | .inr x=>hashStr w x
theorem keyIs_shape:∀ {k:Key} {v:Value},keyIs k v=true→(∃ i t,k=Sum.inl i∧v=Value.int i t)∨(∃ x t,k=Sum.inr x∧v=Value.str x t)
 | .inl i,v,h=>by
  obtain ⟨t,e⟩:=Value.isInt_shape (k:=i) (v:=v) h
  exact .inl ⟨i,t,rfl,e⟩
 | .inr x,v,h=>by
  obtain ⟨t,e⟩:=Value.isStrOf_shape (x:=x) (v:=v) h
  exact .inr ⟨x,t,rfl,e⟩
theorem keyIs_int (i:Int) (t:Tok):keyIs (.inl i) (.int i t)=true:=by simp [keyIs,Value.isInt]
theorem keyIs_str (x:Str) (t:Tok):keyIs (.inr x) (.str x t)=true:=by simp [keyIs,Value.isStrOf]
theorem key_ll (a b:Int):decide ((Sum.inl a:Key)=Sum.inl b)=(a == b):=by
 by_cases e:a=b
 ·subst e; simp
 ·have h:¬ (Sum.inl a:Key)=Sum.inl b:=fun q=>e (Sum.inl.inj q)
  rw [decide_eq_false h]
  exact (beq_eq_false_iff_ne.mpr e).symm
theorem key_rr (a b:Str):decide ((Sum.inr a:Key)=Sum.inr b)=decide (a=b):=by
 by_cases e:a=b
 ·subst e; simp
 ·have h:¬ (Sum.inr a:Key)=Sum.inr b:=fun q=>e (Sum.inr.inj q)
  rw [decide_eq_false h,decide_eq_false e]
theorem key_lr (a:Int) (b:Str):decide ((Sum.inl a:Key)=Sum.inr b)=false:=decide_eq_false (fun q=>nomatch q)
theorem key_rl (a:Str) (b:Int):decide ((Sum.inr a:Key)=Sum.inl b)=false:=decide_eq_false (fun q=>nomatch q)
def mixKind (prog:Program) (w:World):PySem.KeyKind prog w Key where
 is:=keyIs
 hash:=keyH w
 inj:=fun v a b ha hb=>by
  rcases keyIs_shape ha with ⟨i,t,rfl,rfl⟩ | ⟨x,t,rfl,rfl⟩
  ·rcases keyIs_shape hb with ⟨j,u,rfl,e⟩ | ⟨y,u,rfl,e⟩
   ·injection e with e1 _; rw [e1]
   ·exact nomatch e
  ·rcases keyIs_shape hb with ⟨j,u,rfl,e⟩ | ⟨y,u,rfl,e⟩
   ·exact nomatch e
   ·injection e with e1 _; rw [e1]
 byValue:=fun k v h=>by
  rcases keyIs_shape h with ⟨i,t,rfl,rfl⟩ | ⟨x,t,rfl,rfl⟩ <;> rfl
 pyHash:=fun hv h=>by
  rcases keyIs_shape hv with ⟨i,t,rfl,rfl⟩ | ⟨x,t,rfl,rfl⟩
  ·exact wpAny_pyHash_int h
  ·exact wpAny_pyHash_str h
 eqBool:=fun hu hv h=>by
  rcases keyIs_shape hu with ⟨i,t,rfl,rfl⟩ | ⟨x,t,rfl,rfl⟩
  ·rcases keyIs_shape hv with ⟨j,u,rfl,rfl⟩ | ⟨y,u,rfl,rfl⟩
   ·rw [key_ll] at h; exact wpAny_eqBool_int h
   ·rw [key_lr] at h; exact SeqAt.EqAt.int_str i t y u _ _ _ _ h
  ·rcases keyIs_shape hv with ⟨j,u,rfl,rfl⟩ | ⟨y,u,rfl,rfl⟩
   ·rw [key_rl] at h; exact SeqAt.EqAt.str_int x t j u _ _ _ _ h
   ·rw [key_rr] at h; exact wpAny_eqBool_str h
 «strs»:=fun k x t v h=>by
  rcases keyIs_shape h with ⟨i,u,rfl,e⟩ | ⟨y,u,rfl,e⟩
  ·exact nomatch e
  ·injection e with e1 _
   subst e1
   cases v <;> rfl
theorem mixKind_int (prog:Program) (w:World) (i:Int) (t:Tok):(mixKind prog w).is (.inl i) (.int i t)=true:=keyIs_int i t
theorem mixKind_str (prog:Program) (w:World) (x:Str) (t:Tok):(mixKind prog w).is (.inr x) (.str x t)=true:=keyIs_str x t
end L2
namespace L2
open PySem PySem.Spec PyProof.Rows
inductive V where
 | non | bl (b:Bool) | int (i:Int) | str (x:Str) | byt (b:Array UInt8) | flt (b:UInt64) | ref (a:Addr) | ty (n:String)
 deriving DecidableEq
def RelV:V→Value→Prop
 | .non,u=>u=Value.none
 | .bl b,u=>u=Value.bool b
 | .int i,u=>∃ t,u=Value.int i t
 | .str x,u=>∃ t,u=Value.str x t
 | .byt b,u=>∃ t,u=Value.bytes b t
 | .flt b,u=>∃ t,u=Value.float b t
 | .ref a,u=>u=Value.ref a
 | .ty n,u=>u=Value.type n
abbrev Vals:List V→List Value→Prop:=Paired RelV
theorem Vals.length {xs:List V} {us:List Value} (r:Vals xs us):xs.length=us.length:=Paired.length r
theorem Vals.get:∀ {xs:List V} {us:List Value} {i:Nat} {x:V},Vals xs us→xs[i]?=some x→∃ u,us[i]?=some u∧RelV x u
 | _,_,_,_,.nil,e=>by simp at e
 | _,_,0,_,.cons r _,e=>by simp at e; subst e; exact ⟨_,rfl,r⟩
 | _,_,i + 1,x,.cons _ t,e=>by
  obtain ⟨u,h1,h2⟩:=Vals.get (i:=i) (x:=x) t (by simpa using e)
  exact ⟨u,by simpa using h1,h2⟩
theorem Vals.set {x:V} {u:Value} (r:RelV x u):∀ {xs:List V} {us:List Value} (i:Nat),Vals xs us→Vals (xs.set i x) (us.set i u)
 | _,_,_,.nil=>.nil
 | _,_,0,.cons _ t=>.cons r t
 | _,_,i + 1,.cons q t=>.cons q (Vals.set r i t)
theorem Vals.append:∀ {xs ys:List V} {us ws:List Value},Vals xs us→Vals ys ws→Vals (xs ++ ys) (us ++ ws)
 | _,_,_,_,.nil,s=>s
 | _,_,_,_,.cons r t,s=>.cons r (Vals.append t s)
theorem Vals.take:∀ {xs:List V} {us:List Value} (n:Nat),Vals xs us→Vals (xs.take n) (us.take n)
 | _,_,0,_=>.nil
 | _,_,_ + 1,.nil=>.nil
 | _,_,n + 1,.cons r t=>.cons r (Vals.take n t)
def RelO:Option V→Option Value→Prop
 | some v,some u=>RelV v u
 | none,none=>True
 | _,_=>False
def KV {κ:Type}:List (κ × V)→List (κ × Value)→Prop:=Paired fun (p:κ × V) (q:κ × Value)=>p.1=q.1∧RelV p.2 q.2
def kV:Key→V
 | .inl i=>.int i
 | .inr x=>.str x
inductive HO where
 | lst (xs:List V)
 | tup (xs:List V)
 | dK (kvs:List (Key × V)) | dT (kvs:List (List Key × V))
 | set (S:Int→Bool) (n:Nat)
 | ins (C dx:Addr) (fs:List (Str × V))
 | own (x:Addr)
 | xd (fs:List (Str × V))
 | met (f x:Addr)
 | rng (lo hi:Int)
 | frz (o:Obj) (u:HO)
 | tbl (ps:Array Value)
 | ext (φ:Heap→Prop)
abbrev Hp:=Addr→Option HO
def upd (H:Hp) (a:Addr) (o:HO):Hp:=fun b=>if b=a then some o else H b
theorem upd_same {H:Hp} {a:Addr} {o:HO}:upd H a o a=some o:=by unfold upd; rw [if_pos rfl]
theorem upd_ne {H:Hp} {a b:Addr} {o:HO} (h:b≠a):upd H a o b=H b:=by unfold upd; rw [if_neg h]
theorem ne_of {H:Hp} {a b:Addr} {o u:HO} (h:H a=some o) (h':H b=some u) (d:o≠u):a≠b:=by
 intro e; subst e; rw [h] at h'; exact d (Option.some.inj h')
theorem ne_of_none {H:Hp} {a b:Addr} {o:HO} (h:H a=some o) (h':H b=none):a≠b:=by
 intro e; subst e; rw [h] at h'; cases h'
section
variable (P : Program) (w : World)
def ObjOk (H:Hp) (h:Heap) (a:Addr):HO→Prop
 | .lst xs=>xs.length≤sizeLine∧∃ (its:List Value) (n:Nat),Vals xs its∧h.get? a=some { cls:=.type "list",data:=.seq its.toArray n }
 | .tup xs=>xs.length≤sizeLine∧∃ its:List Value,Vals xs its∧IsTup h a its.toArray
 | .dK kvs=>kvs.length≤sizeLine∧(a == sysModules)=false∧∃ vs,KV kvs vs∧h.DictOf (mixKind P w) a vs
 | .dT kvs=>kvs.length≤sizeLine∧(a == sysModules)=false∧∃ xs:List (List Key × Addr × Value),
   Paired (fun (p:List Key × V) (q:List Key × Addr × Value)=>p.1=q.1∧H q.2.1=some (.tup (p.1.map kV))∧RelV p.2 q.2.2) kvs xs ∧
   ∃ o es ep,h.get? a=some o∧o.ExactDict∧o.data=.dict es ep∧es.toList=xs.map (entryOfKey (tupleKind (mixKind P w)))∧(xs.map (·.1)).Nodup
 | .set S n=>h.SetOf (intKind P w) a S n
 | .ins C dx fs=>H dx=some (.own a)∧fs.length≤1000∧dx≠a∧h.get? a=some (PySem.W.instObj C dx) ∧
   ∃ mA,h.Ns1 dx mA∧(∀ f,RelO (fs.lookup f) (mA f))∧PySem.Within mA (fs.map (·.1))
 | .own _=>∃ o,h.get? a=some o
 | .xd fs=>∃ mA,h.Ns1 a mA∧∀ f,RelO (fs.lookup f) (mA f)
 | .rng lo hi=>∃ t u v,h.get? a=some { cls:=.type "range",data:=.fields #[.int lo t,.int hi u,.int 1 v] }
 | .frz o u=>h.get? a=some o∧ObjOk H h a u
 | .tbl ps=>h.get? a=some { cls:=.none,data:=.fields ps }
 | .met f x=>h.get? a=some (PySem.W.methodObj (.ref f) (.ref x))
 | .ext φ=>φ h∧(∃ o,h.get? a=some o)∧∀ h1 h2:Heap,φ h1→(∀ o,h1.get? a=some o→h2.get? a=some o)→φ h2
def HOk (H:Hp) (h:Heap):Prop:=∀ a o,H a=some o→ObjOk P w H h a o
end
section
variable {P : Program} {w : World} {H H' : Hp} {h h' : Heap} {a : Addr} {o : HO}
theorem ObjOk.lt (x:ObjOk P w H h a o):a < h.objs.size:=by
 cases o with
 | lst xs=>obtain ⟨_,_,_,_,e⟩:=x; exact Heap.lt_size e
 | tup xs=>obtain ⟨_,_,_,p⟩:=x; exact p.lt
 | dK kvs=>obtain ⟨_,_,_,_,o,_,_,e,_⟩:=x; exact Heap.lt_size e
 | dT kvs=>obtain ⟨_,_,_,_,o,_,_,e,_⟩:=x; exact Heap.lt_size e
 | set S n=>obtain ⟨o,_,_,_,e,_⟩:=x; exact Heap.lt_size e
 | ins C dx fs=>obtain ⟨_,_,_,e,_⟩:=x; exact Heap.lt_size e
 | own y=>obtain ⟨_,e⟩:=x; exact Heap.lt_size e
 | xd fs=>obtain ⟨_,⟨_,_,_,e,_⟩,_⟩:=x; exact Heap.lt_size e
 | rng lo hi=>obtain ⟨_,_,_,e⟩:=x; exact Heap.lt_size e
 | frz ob u=>obtain ⟨e,_⟩:=x; exact Heap.lt_size e
 | tbl ps=>exact Heap.lt_size (show h.get? a=some _ from x)
 | met f y=>exact Heap.lt_size (show h.get? a=some _ from x)
 | ext φ=>obtain ⟨_,⟨_,e⟩,_⟩:=x; exact Heap.lt_size e
theorem Paired.mapP {α β:Type} {F G:α→β→Prop}:∀ {l₁:List α} {l₂:List β},Paired F l₁ l₂→(∀ a b,F a b→G a b)→Paired G l₁ l₂
 | _,_,.nil,_=>.nil
 | _,_,.cons r t,f=>.cons (f _ _ r) (Paired.mapP t f)
theorem ObjOk.stay (x:ObjOk P w H h a o) (k:∀ b u,(b=a∨H b=some (.own a))→h.get? b=some u→h'.get? b=some u)
  (ho:∀ b,H b=some (.own a)→H' b=some (.own a)) (ht:∀ b xs,H b=some (.tup xs)→H' b=some (.tup xs)):ObjOk P w H' h' a o:=by
 induction o with
 | lst xs=>obtain ⟨z,its,n,r,e⟩:=x; exact ⟨z,its,n,r,k _ _ (.inl rfl) e⟩
 | tup xs=>obtain ⟨z,its,r,ob,e,c⟩:=x; exact ⟨z,its,r,ob,k _ _ (.inl rfl) e,c⟩
 | dK kvs=>obtain ⟨z,y,vs,r,ob,es,ep,e,c⟩:=x; exact ⟨z,y,vs,r,ob,es,ep,k _ _ (.inl rfl) e,c⟩
 | dT kvs =>
  obtain ⟨z,y,xs,r,ob,es,ep,e,c⟩:=x
  exact ⟨z,y,xs,Paired.mapP r fun p q z=>⟨z.1,ht _ _ z.2.1,z.2.2⟩,ob,es,ep,k _ _ (.inl rfl) e,c⟩
 | set S n=>obtain ⟨ob,es,ep,t,e,c⟩:=x; exact ⟨ob,es,ep,t,k _ _ (.inl rfl) e,c⟩
 | ins C dx fs =>
  obtain ⟨d,z,ne,e,mA,⟨od,es,ep,e2,c⟩,r⟩:=x
  exact ⟨ho _ d,z,ne,k _ _ (.inl rfl) e,mA,⟨od,es,ep,k _ _ (.inr d) e2,c⟩,r⟩
 | own y=>obtain ⟨ob,e⟩:=x; exact ⟨ob,k _ _ (.inl rfl) e⟩
 | xd fs=>obtain ⟨mA,⟨od,es,ep,e,c⟩,r⟩:=x; exact ⟨mA,⟨od,es,ep,k _ _ (.inl rfl) e,c⟩,r⟩
 | rng lo hi=>obtain ⟨t,u,v,e⟩:=x; exact ⟨t,u,v,k _ _ (.inl rfl) e⟩
 | frz ob u ih=>obtain ⟨e,q⟩:=x; exact ⟨k _ _ (.inl rfl) e,ih q⟩
 | tbl ps =>
  have e:h.get? a=some { cls:=.none,data:=.fields ps }:=x
  show h'.get? a=some { cls:=.none,data:=.fields ps }
  exact k a _ (.inl rfl) e
 | met f y =>
  have e:h.get? a=some (W.methodObj (.ref f) (.ref y)):=x
  show h'.get? a=some (W.methodObj (.ref f) (.ref y))
  exact k a _ (.inl rfl) e
 | ext φ=>obtain ⟨p,⟨o,e⟩,st⟩:=x; exact ⟨st _ _ p fun o q=>k _ _ (.inl rfl) q,⟨o,k _ _ (.inl rfl) e⟩,st⟩
theorem HOk.lt (x:HOk P w H h) (e:H a=some o):a < h.objs.size:=(x a o e).lt
theorem HOk.fresh (x:HOk P w H h) (e:h.objs.size≤a):H a=none:=by
 cases q:H a with
 | none=>rfl
 | some u=>exact absurd (Nat.lt_of_lt_of_le (x.lt q) e) (Nat.lt_irrefl _)
theorem HOk.kept (x:HOk P w H h) (k:∀ b u,h.get? b=some u→h'.get? b=some u):HOk P w H h':=fun a o e =>
 (x a o e).stay (fun b u _ q=>k b u q) (fun _ q=>q) fun _ _ q=>q
theorem HOk.laid (x:HOk P w H h) (k:∀ b u,h.get? b=some u→h'.get? b=some u) (hp:h.objs.size≤a) (new:ObjOk P w (upd H a o) h' a o):HOk P w (upd H a o) h':=fun b u e=>by
 have hn:=x.fresh hp
 by_cases hb:b=a
 ·subst hb; rw [upd_same] at e; cases e; exact new
 ·rw [upd_ne hb] at e
  exact (x b u e).stay (fun c v _ q=>k c v q) (fun c q=>by rw [upd_ne (ne_of_none q hn)]; exact q) fun c xs q=>by rw [upd_ne (ne_of_none q hn)]; exact q
end
def Rd (H:Hp) (a:Addr) (u:HO):Prop:=H a=some u∨∃ o,H a=some (.frz o u)
theorem Rd.ok {P:Program} {w:World} {H:Hp} {h:Heap} {a:Addr} {u:HO} (r:Rd H a u) (x:HOk P w H h):ObjOk P w H h a u:=by
 rcases r with r | ⟨o,r⟩
 ·exact x a u r
 ·obtain ⟨_,q⟩:=x a _ r
  exact q
def Mut:Option HO→Prop
 | some (.lst _)=>True
 | some (.dK _)=>True
 | some (.dT _)=>True
 | some (.set _ _)=>True
 | some (.ins _ _ _)=>True
 | some (.ext _)=>True
 | _=>False
section
variable {P : Program} {w : World} {H : Hp} {h h' : Heap} {x e : Addr} {o' : HO}
theorem HOk.write (ok:HOk P w H h) (mu:Mut (H x)) (he:e=x∨H e=some (.own x)) (k:∀ b u,b≠e→h.get? b=some u→h'.get? b=some u) (heo:∃ u,h'.get? e=some u)
  (new:ObjOk P w (upd H x o') h' x o'):HOk P w (upd H x o') h':=fun b u q=>by
 have nown:∀ c y,H c=some (.own y)→c≠x:=fun c y r z=>by subst z; rw [r] at mu; exact mu
 have ntup:∀ c xs,H c=some (.tup xs)→c≠x:=fun c xs r z=>by subst z; rw [r] at mu; exact mu
 by_cases hb:b=x
 ·subst hb; rw [upd_same] at q; cases q; exact new
 ·rw [upd_ne hb] at q
  by_cases hbe:b=e
  ·have q':H b=some (.own x):=by
    rcases he with z | z
    ·exact absurd (hbe.trans z) hb
    ·rw [hbe]; exact z
   rw [q] at q'; cases q'
   obtain ⟨v,hv⟩:=heo
   exact ⟨v,by rw [hbe]; exact hv⟩
  ·refine (ok b u q).stay (fun c v hc r=>k c v ?_ r) (fun c r=>by rw [upd_ne (nown c b r)]; exact r) fun c xs r=>by rw [upd_ne (ntup c xs r)]; exact r
   rcases hc with rfl | hc
   ·exact hbe
   ·rintro rfl
    rcases he with z | z
    ·exact nown c b hc z
    ·rw [hc] at z; cases z; exact hb rfl
end
structure Un (fs ex:List Addr) (H H':Hp) (h h':Heap):Prop where
 keep:∀ b o,h.get? b=some o→H b=none→b ∉ fs→b ∉ ex→h'.get? b=some o
 slot:∀ b o,h.get? b=some o→H b=none→b∈fs→b ∉ ex→∃ sl,h'.get? b=some { o with slots:=sl }
 free:∀ b o,h.get? b=some o→H b=none→b ∉ ex→H' b=none
 there:∀ b o,h.get? b=some o→b ∉ ex→∃ o',h'.get? b=some o'
 tups:∀ b xs,H b=some (.tup xs)→H' b=some (.tup xs)
 frzs:∀ b o u,H b=some (.frz o u)→H' b=some (.frz o u)
 tbls:∀ b ps,H b=some (.tbl ps)→∃ more,H' b=some (.tbl (ps ++ more))
section
variable {fs fs' ex ex' : List Addr} {H H1 H2 : Hp} {h h1 h2 h' : Heap} {a x e : Addr} {o : HO}
theorem Un.any (u:Un fs ex H H1 h h1) {b:Addr} {ob:Obj} (q:h.get? b=some ob) (n:H b=none) (hx:b ∉ ex):∃ sl,h1.get? b=some { ob with slots:=sl }:=by
 by_cases hb:b∈fs
 ·exact u.slot b ob q n hb hx
 ·exact ⟨ob.slots,u.keep b ob q n hb hx⟩
theorem Un.kept (k:∀ b u,h.get? b=some u→h'.get? b=some u):Un fs ex H H h h' :=
 ⟨fun b ob q _ _ _=>k b ob q,fun b ob q _ _ _=>⟨ob.slots,k b ob q⟩,fun _ _ _ n _=>n,fun b ob q _=>⟨ob,k b ob q⟩,fun _ _ q=>q,fun _ _ _ q=>q,fun _ ps q=>⟨#[],by rw [q]; simp⟩⟩
theorem Un.refl:Un fs ex H H h h:=Un.kept fun _ _ q=>q
theorem Un.laid (k:∀ b u,h.get? b=some u→h'.get? b=some u) (hp:h.objs.size≤a) (hn:H a=none):Un fs ex H (upd H a o) h h' where
 keep:=fun b u q _ _ _=>k b u q
 slot:=fun b u q _ _ _=>⟨u.slots,k b u q⟩
 free:=fun b u q n _=>by rw [upd_ne (Nat.ne_of_lt (Nat.lt_of_lt_of_le (Heap.lt_size q) hp))]; exact n
 there:=fun b u q _=>⟨u,k b u q⟩
 tups:=fun b xs q=>by rw [upd_ne (ne_of_none q hn)]; exact q
 frzs:=fun b u xs q=>by rw [upd_ne (ne_of_none q hn)]; exact q
 tbls:=fun b ps q=>⟨#[],by rw [upd_ne (ne_of_none q hn),q]; simp⟩
theorem Un.write (mu:Mut (H x)) (he:e=x∨H e=some (.own x)) (k:∀ b u,b≠e→h.get? b=some u→h'.get? b=some u) (heo:∃ u,h'.get? e=some u):Un fs ex H (upd H x o) h h':=by
 have hx:∀ b,H b=none→b≠x:=fun b n z=>by subst z; rw [n] at mu; exact mu
 have hb:∀ b,H b=none→b≠e:=fun b n z=>by
  subst z
  rcases he with r | r
  ·exact hx b n r
  ·rw [n] at r; cases r
 have hm:∀ b u,H b=some u→¬ Mut (some u)→b≠x:=fun b u q nm z=>by subst z; rw [q] at mu; exact nm mu
 refine ⟨fun b u q n _ _=>k b u (hb b n) q,fun b u q n _ _=>⟨u.slots,k b u (hb b n) q⟩,fun b u q n _=>by rw [upd_ne (hx b n)]; exact n,fun b u q _=>?_,
  fun b xs q=>by rw [upd_ne (hm b _ q fun z=>z)]; exact q,fun b u xs q=>by rw [upd_ne (hm b _ q fun z=>z)]; exact q,fun b ps q=>⟨#[],by rw [upd_ne (hm b _ q fun z=>z),q]; simp⟩⟩
 by_cases hbe:b=e
 ·subst hbe; exact heo
 ·exact ⟨u,k b u hbe q⟩
end
def trk (h:Heap) (H:Hp):List Addr:=(List.range h.objs.size).filter fun a=>(H a).isSome
def hidT (h:Heap) (H:Hp):Heap:=W.hideAll h (trk h H)
theorem hidT_size (h:Heap) (H:Hp):(hidT h H).objs.size=h.objs.size:=W.hideAll_size _ _
theorem hidT_get {h:Heap} {H:Hp} {b:Addr} {o:Obj} (e:h.get? b=some o) (n:H b=none):(hidT h H).get? b=some o :=
 W.hideAll_get _ e fun hm=>by
  have q:(H b).isSome=true:=(List.mem_filter.mp hm).2
  rw [n] at q; simp at q
theorem of_hidT {h:Heap} {H:Hp} {b:Addr} {o:Obj} (e:(hidT h H).get? b=some o):h.get? b=some o∧H b=none:=by
 have e':h.get? b=some o:=W.of_hideAll (trk h H) e
 refine ⟨e',?_⟩
 cases q:H b with
 | none=>rfl
 | some x =>
  have hm:b∈trk h H:=List.mem_filter.mpr ⟨List.mem_range.mpr (Heap.lt_size e'),by simp [q]⟩
  have z:(hidT h H).get? b=none:=W.hideAll_none (trk h H) hm
  rw [z] at e; cases e
def allNews (g h:Heap) (L:Addr):List (Addr × Obj):=(List.range h.objs.size).filterMap fun a=>if a=L∨(g.get? a).isSome=true then none else (h.get? a).map fun o=>(a,o)
def rest (g h:Heap) (L d:Addr):List (Addr × Obj):=(allNews g h L).filter fun p=>decide (p.1≠d)
end L2
namespace L2
open PySem PySem.Spec PyProof.Rows
structure Mod (K:W.Frag) (mg:Str→Option Value) (base:Heap):Prop where
 kin:K.In base
 glob:base.Ns mainGlobals mg
 blt:∃ mb,base.Ns builtinsNs mb∧∀ x:Str,x≠"__name__"→mb x=bootBuiltins x
 nolimit:base.NoLimit
 seer:base.NoSeer
structure Cx where
 prog:Program
 w:World
 K:W.Frag
 mg:Str→Option Value
 base:Heap
 A:Around
 N:List Str
 s₀:Shared
 H₀:Hp
 env:Env
 outer:List Env
 stack:List Env
 ex:List Addr
 fn:Str→Bool
 calm:Bool
 pn:List (Addr × Obj)
 kn:Nat→Option V
 xe:Value→Shared→Prop
def frs (l:List Env):List Addr:=l.filterMap (·.frame)
abbrev Cx.fs (X:Cx):List Addr:=frs X.outer
def Vis (sc:Scope) (x:Str):Prop:=sc.names.lookup x=some .local∨sc.names.lookup x=some .cell∨sc.names.lookup x=some .free
def Loc (sc:Scope) (x:Str):Prop:=sc.names.lookup x=some .local∨sc.names.lookup x=some .cell
def Look (env:Env) (h:Heap) (m:Str→Option Value) (x:Str) (u:Value):Prop :=
 (env.kindOf x=some .local∧m x=some u)∨((env.kindOf x=some .cell∨env.kindOf x=some .free)∧∃ c,env.cells.lookup x=some c∧h.IsCell c (some u))
structure Cx.Ok (X:Cx):Prop where
 mod:Mod X.K X.mg X.base
 kind:X.env.scope.kind=.function
 glob:X.env.globals=mainGlobals
 blt:X.env.builtins=builtinsNs
 above:X.s₀.heap.objs.size≤X.env.locals
 inj:∀ x y c,X.env.cells.lookup x=some c→X.env.cells.lookup y=some c→x=y
 has:∀ x,(X.env.kindOf x=some .cell∨X.env.kindOf x=some .free)→∃ c,X.env.cells.lookup x=some c
 cab:∀ x c,X.fn x=true→X.env.cells.lookup x=some c→X.s₀.heap.objs.size≤c
 hd:X.calm=true→X.A.handled=none
 frames:X.A.frames=some X.stack
 stk:X.stack=X.outer∨(X.stack=X.env :: X.outer∧X.env.frame=some X.env.locals)
 exf:∀ b∈X.ex,b≠X.env.locals∧∀ x c,X.env.cells.lookup x=some c→c≠b
 bs:∀ b o,X.base.get? b=some o→X.s₀.heap.get? b=some o∧X.H₀ b=none
 bsz:X.base.objs.size≤X.s₀.heap.objs.size
 noex:∀ b o,X.base.get? b=some o→b ∉ X.ex
 exfs:∀ b∈X.ex,b ∉ X.fs
 funs:X.s₀.heap.FunFrames X.base X.outer
 frf:∀ b∈X.fs,X.H₀ b=none
structure Inv (X:Cx) (pins:List (Addr × Obj)) (σ:List (Option V)) (H:Hp) (s:Shared):Prop where
 ok:X.Ok
 os:s.os=X.s₀.os
 bare:AllBare s.gens
 base:Un X.fs X.ex X.H₀ H X.s₀.heap s.heap
 loc:∃ m,s.heap.Ns X.env.locals m∧∀ (i:Nat) (x:Str) (v:V),X.N[i]?=some x→σ[i]?=some (some v)→Vis X.env.scope x→∃ u,RelV v u∧Look X.env s.heap m x u
 cell:∀ x c,X.env.cells.lookup x=some c→∃ v,s.heap.IsCell c v
 free:H X.env.locals=none
 freeC:∀ x c,X.env.cells.lookup x=some c→H c=none
 pin:∀ p∈X.pn ++ pins,s.heap.get? p.1=some p.2∧H p.1=none∧p.1≠X.env.locals∧p.1 ∉ X.fs∧∀ v,p.2.data≠.cell v
 hok:HOk X.prog X.w H s.heap
 len:σ.length=X.N.length
 kno:∀ (i:Nat) (v:V),X.kn i=some v→σ[i]?=some (some v)
section
variable {X : Cx} {pins : List (Addr × Obj)} {σ : List (Option V)} {H H' : Hp} {s : Shared} {h' : Heap}
theorem Cx.Ok.nofr (ok:X.Ok) {b:Addr} {o:Obj} (e:X.base.get? b=some o):b ∉ X.fs:=fun hb=>by
 have:=(ok.funs.mem hb).1
 rw [e] at this; cases this
theorem Inv.bs (I:Inv X pins σ H s):∀ b o,X.base.get? b=some o→s.heap.get? b=some o∧H b=none:=fun b o e =>
 ⟨I.base.keep b o (I.ok.bs b o e).1 (I.ok.bs b o e).2 (I.ok.nofr e) (I.ok.noex b o e),I.base.free b o (I.ok.bs b o e).1 (I.ok.bs b o e).2 (I.ok.noex b o e)⟩
theorem Inv.bk (I:Inv X pins σ H s):∀ b o,X.base.get? b=some o→s.heap.get? b=some o:=fun b o e=>(I.bs b o e).1
theorem Inv.mod (I:Inv X pins σ H s):Mod X.K X.mg X.base:=I.ok.mod
theorem Inv.kIn (I:Inv X pins σ H s):X.K.In s.heap:=I.ok.mod.kin.keeps I.bk
theorem Inv.nolimit (I:Inv X pins σ H s):s.heap.NoLimit:=I.ok.mod.nolimit.keeps I.bk
theorem Inv.fr (I:Inv X pins σ H s):∃ m,Fr X.base X.env.locals s.heap m :=
 let ⟨m,hn,_⟩:=I.loc
 ⟨m,hn,I.bk,Nat.le_trans I.ok.bsz I.ok.above⟩
theorem Inv.lt (I:Inv X pins σ H s):X.env.locals < s.heap.objs.size:=let ⟨_,hn,_⟩:=I.loc; hn.lt
theorem Inv.sz (I:Inv X pins σ H s):X.s₀.heap.objs.size≤s.heap.objs.size:=Nat.le_trans I.ok.above (Nat.le_of_lt I.lt)
theorem Inv.nofs (I:Inv X pins σ H s) {a:Addr} (h:s.heap.objs.size≤a):a ∉ X.fs:=fun hb=>by
 obtain ⟨_,o,ho,_⟩:=I.ok.funs.mem hb
 exact absurd (Nat.lt_of_lt_of_le (Heap.lt_size ho) (Nat.le_trans I.sz h)) (Nat.lt_irrefl _)
theorem Inv.cne (I:Inv X pins σ H s):∀ x c,X.env.cells.lookup x=some c→c≠X.env.locals:=fun x c e z=>by
 obtain ⟨v,o,ho,hd⟩:=I.cell x c e
 obtain ⟨m,⟨o',es,ep,ho',hd',_⟩,_⟩:=I.loc
 rw [z,ho'] at ho; cases ho; rw [hd'] at hd; cases hd
theorem Inv.funs (I:Inv X pins σ H s):s.heap.FunFrames X.base X.outer:=by
 have all:∀ (l:List Env),(∀ b∈frs l,b∈X.fs)→X.s₀.heap.FunFrames X.base l→s.heap.FunFrames X.base l:=by
  intro l
  induction l with
  | nil=>intro _ _; trivial
  | cons env r ih =>
   intro hs hl
   obtain ⟨hk,⟨L,o,hf,hn,ho,hd⟩,hr⟩:=hl
   have hL:L∈X.fs:=hs L (by unfold frs; rw [List.filterMap_cons,hf]; exact List.mem_cons_self)
   obtain ⟨sl,e⟩:=I.base.slot L o ho (I.ok.frf L hL) hL fun z=>I.ok.exfs L z hL
   exact ⟨hk,⟨L,_,hf,hn,e,hd⟩,ih (fun b hb=>hs b (by unfold frs; rw [List.filterMap_cons,hf]; exact List.mem_cons_of_mem _ hb)) hr⟩
 exact all X.outer (fun _ hb=>hb) I.ok.funs
theorem Inv.stack (I:Inv X pins σ H s):s.heap.FunFrames X.base X.stack:=by
 rcases I.ok.stk with e | ⟨e,hf⟩
 ·rw [e]; exact I.funs
 ·rw [e]
  obtain ⟨m,hn,_⟩:=I.loc
  refine .cons (by rw [I.ok.kind]; decide) hf hn ?_ I.funs
  exact Heap.get?_none_of_le (Nat.le_trans I.ok.bsz I.ok.above)
theorem Inv.stkSub (I:Inv X pins σ H s):∀ b∈frs X.stack,b∈X.env.locals :: X.fs:=fun b hb=>by
 rcases I.ok.stk with e | ⟨e,hf⟩
 ·rw [e] at hb; exact List.mem_cons_of_mem _ hb
 ·rw [e] at hb
  unfold frs at hb
  rw [List.filterMap_cons,hf] at hb
  exact hb
theorem Inv.stkFree (I:Inv X pins σ H s):∀ b∈frs X.stack,H b=none:=fun b hb=>by
 rcases List.mem_cons.mp (I.stkSub b hb) with e | hb
 ·rw [e]; exact I.free
 ·obtain ⟨_,o,ho,_⟩:=I.ok.funs.mem hb
  exact I.base.free b o ho (I.ok.frf b hb) fun z=>I.ok.exfs b z hb
theorem Inv.step {g':Array GenState} {t':Nat} {d':Drawn} {ch:List Addr} (I:Inv X pins σ H s)
  (hch:∀ b∈ch,(b∈X.ex∨X.s₀.heap.objs.size≤b)∧b≠X.env.locals∧(∀ x c,X.env.cells.lookup x=some c→c≠b)∧∀ p∈X.pn ++ pins,p.1≠b)
  (keep:∀ b o,b≠X.env.locals→b ∉ X.fs→b ∉ ch→s.heap.get? b=some o→H b=none→h'.get? b=some o)
  (slot:∀ b o,b≠X.env.locals→b∈X.fs→b ∉ ch→s.heap.get? b=some o→H b=none→∃ sl,h'.get? b=some { o with slots:=sl }) (free:∀ b o,b ∉ ch→s.heap.get? b=some o→H b=none→H' b=none)
  (there:∀ b o,b ∉ ch→s.heap.get? b=some o→∃ o',h'.get? b=some o')
  (tups:∀ b xs,H b=some (.tup xs)→H' b=some (.tup xs)) (frzs:∀ b o u,H b=some (.frz o u)→H' b=some (.frz o u)) (tbls:∀ b ps,H b=some (.tbl ps)→∃ more,H' b=some (.tbl (ps ++ more)))
  (ns:∀ m,s.heap.Ns X.env.locals m→h'.Ns X.env.locals m) (hok:HOk X.prog X.w H' h') (hg:AllBare g') :
  Inv X pins σ H' { s with heap:=h',gens:=g',drawn:=d',toks:=t' }:=by
 have neL:∀ b o,X.s₀.heap.get? b=some o→b≠X.env.locals:=fun b o e=>Nat.ne_of_lt (Nat.lt_of_lt_of_le (Heap.lt_size e) I.ok.above)
 have neC:∀ b o,X.s₀.heap.get? b=some o→b ∉ X.ex→b ∉ ch:=fun b o e hx hb=>by
  rcases (hch b hb).1 with z | z
  ·exact hx z
  ·exact absurd (Nat.lt_of_lt_of_le (Heap.lt_size e) z) (Nat.lt_irrefl _)
 have cellK:∀ x c,X.env.cells.lookup x=some c→∀ v,s.heap.IsCell c v→h'.IsCell c v:=fun x c e v ⟨o,ho,hd⟩=>by
  have nch:c ∉ ch:=fun z=>(hch c z).2.2.1 x c e rfl
  by_cases hc:c∈X.fs
  ·obtain ⟨sl,q⟩:=slot c o (I.cne x c e) hc nch ho (I.freeC x c e)
   exact ⟨_,q,hd⟩
  ·exact ⟨o,keep c o (I.cne x c e) hc nch ho (I.freeC x c e),hd⟩
 refine ⟨I.ok,I.os,hg,⟨fun b o e n hb hx=>?_,fun b o e n hb hx=>?_,fun b o e n hx=>?_,fun b o e hx=>?_,fun b xs e=>tups b xs (I.base.tups b xs e),fun b o xs e=>frzs b o xs (I.base.frzs b o xs e),fun b ps e=>?_⟩,?_,fun x c e=>?_,?_,fun x c e=>?_,fun p hp=>?_,hok,I.len,I.kno⟩
 ·exact keep b o (neL b o e) hb (neC b o e hx) (I.base.keep b o e n hb hx) (I.base.free b o e n hx)
 ·obtain ⟨sl,e1⟩:=I.base.slot b o e n hb hx
  obtain ⟨sl',e2⟩:=slot b _ (neL b o e) hb (neC b o e hx) e1 (I.base.free b o e n hx)
  exact ⟨sl',e2⟩
 ·obtain ⟨o',e1⟩:=I.base.there b o e hx
  exact free b o' (neC b o e hx) e1 (I.base.free b o e n hx)
 ·obtain ⟨o',e1⟩:=I.base.there b o e hx
  exact there b o' (neC b o e hx) e1
 ·obtain ⟨m1,e1⟩:=I.base.tbls b ps e
  obtain ⟨m2,e2⟩:=tbls b _ e1
  exact ⟨m1 ++ m2,by rw [e2,Array.append_assoc]⟩
 ·obtain ⟨m,hn,hl⟩:=I.loc
  refine ⟨m,ns m hn,fun i x v e1 e2 e3=>?_⟩
  obtain ⟨u,r,l⟩:=hl i x v e1 e2 e3
  refine ⟨u,r,?_⟩
  rcases l with l | ⟨k,c,e,z⟩
  ·exact .inl l
  ·exact .inr ⟨k,c,e,cellK x c e _ z⟩
 ·obtain ⟨v,z⟩:=I.cell x c e
  exact ⟨v,cellK x c e v z⟩
 ·obtain ⟨m,⟨o,_,_,ho,_⟩,_⟩:=I.loc
  exact free _ o (fun z=>(hch _ z).2.1 rfl) ho I.free
 ·obtain ⟨v,o,ho,hd⟩:=I.cell x c e
  exact free c o (fun z=>(hch c z).2.2.1 x c e rfl) ho (I.freeC x c e)
 ·obtain ⟨e,n,ne,nf,d⟩:=I.pin p hp
  have nch:p.1 ∉ ch:=fun z=>(hch p.1 z).2.2.2 p hp rfl
  exact ⟨keep p.1 p.2 ne nf nch e n,free p.1 p.2 nch e n,ne,nf,d⟩
theorem Inv.un {t':Nat} (I:Inv X pins σ H s) (u:Un X.fs [] H H' s.heap h') (hok:HOk X.prog X.w H' h'):Inv X pins σ H' { s with heap:=h',toks:=t' }:=by
 obtain ⟨m,⟨o,es,ep,ho,r⟩,_⟩:=id I.loc
 obtain ⟨sl,hL⟩:=u.any ho I.free (by simp)
 exact I.step (g':=s.gens) (d':=s.drawn) (ch:=[]) (fun _ z=>nomatch z) (fun b o _ hb _ e n=>u.keep b o e n hb (by simp)) (fun b o _ hb _ e n=>u.slot b o e n hb (by simp)) (fun b o _ e n=>u.free b o e n (by simp)) (fun b o _ e=>u.there b o e (by simp)) u.tups u.frzs u.tbls (fun m' hm=>by
  obtain ⟨o',es',ep',ho',r'⟩:=hm
  rw [ho] at ho'; cases ho'
  exact ⟨_,es',ep',hL,r'⟩) hok I.bare
theorem Inv.call {g':Array GenState} {t':Nat} {d':Drawn} {ch:List Addr} (I:Inv X pins σ H s) (u:Un (frs X.stack) ch H H' s.heap h') (hok:HOk X.prog X.w H' h') (hg:AllBare g')
  (hch:∀ b∈ch,(b∈X.ex∨X.s₀.heap.objs.size≤b)∧b≠X.env.locals∧(∀ x c,X.env.cells.lookup x=some c→c≠b)∧∀ p∈X.pn ++ pins,p.1≠b) :
  Inv X pins σ H' { s with heap:=h',gens:=g',drawn:=d',toks:=t' }:=by
 obtain ⟨m,⟨o,es,ep,ho,r⟩,_⟩:=id I.loc
 obtain ⟨sl,hL⟩:=u.any ho I.free fun z=>(hch _ z).2.1 rfl
 exact I.step (ch:=ch) hch (fun b o hL hb hc e n=>u.keep b o e n (fun z=>(List.mem_cons.mp (I.stkSub b z)).elim hL hb) hc) (fun b o _ _ hc e n=>u.any e n hc) (fun b o hc e n=>u.free b o e n hc) (fun b o hc e=>u.there b o e hc) u.tups u.frzs u.tbls (fun m' hm=>by
  obtain ⟨o',es',ep',ho',r'⟩:=hm
  rw [ho] at ho'; cases ho'
  exact ⟨_,es',ep',hL,r'⟩) hok hg
theorem Inv.turned {t':Nat} {it:Addr} (I:Inv X pins σ H s) (k:∀ b o,b≠it→s.heap.get? b=some o→h'.get? b=some o) (hn:H it=none) (hL:it≠X.env.locals)
  (h1:it∈X.ex∨X.s₀.heap.objs.size≤it) (h2:∀ x c,X.env.cells.lookup x=some c→c≠it) (h3:∀ p∈X.pn ++ pins,p.1≠it):Inv X pins σ H { s with heap:=h',toks:=t' }:=by
 have nit:∀ b u,H b=some u→b≠it:=fun b u e z=>by rw [z,hn] at e; cases e
 refine I.step (g':=s.gens) (d':=s.drawn) (ch:=[it]) (fun b hb=>?_) (fun b o _ _ hc e _=>k b o (fun z=>hc (by simp [z])) e) (fun b o _ _ hc e _=>⟨o.slots,k b o (fun z=>hc (by simp [z])) e⟩) (fun _ _ _ _ n=>n)
  (fun b o hc e=>⟨o,k b o (fun z=>hc (by simp [z])) e⟩) (fun _ _ e=>e) (fun _ _ _ e=>e) (fun b ps e=>⟨#[],by rw [e]; simp⟩) (fun m hm=>?_) (fun b u e=>?_) I.bare
 ·have e:b=it:=by simpa using hb
  subst e
  exact ⟨h1,hL,h2,h3⟩
 ·obtain ⟨o,es,ep,ho,r⟩:=hm
  exact ⟨o,es,ep,k _ o (Ne.symm hL) ho,r⟩
 ·refine (I.hok b u e).stay (fun c v hc q=>k c v ?_ q) (fun _ q=>q) fun _ _ q=>q
  rcases hc with z | z
  ·rw [z]; exact nit b u e
  ·exact nit c _ z
theorem Inv.tok (I:Inv X pins σ H s) (t:Nat):Inv X pins σ H { s with toks:=t }:=I.un (h':=s.heap) (t':=t) Un.refl I.hok
theorem Inv.kept {t':Nat} (I:Inv X pins σ H s) (k:∀ b u,s.heap.get? b=some u→h'.get? b=some u):Inv X pins σ H { s with heap:=h',toks:=t' }:=I.un (Un.kept k) (I.hok.kept k)
theorem Inv.laid {a:Addr} {o:HO} {t':Nat} (I:Inv X pins σ H s) (k:∀ b u,s.heap.get? b=some u→h'.get? b=some u) (hp:s.heap.objs.size≤a) (new:ObjOk X.prog X.w (upd H a o) h' a o) :
  Inv X pins σ (upd H a o) { s with heap:=h',toks:=t' }:=I.un (Un.laid k hp (I.hok.fresh hp)) (I.hok.laid k hp new)
theorem Inv.write {x e:Addr} {o:HO} {t':Nat} (I:Inv X pins σ H s) (mu:Mut (H x)) (he:e=x∨H e=some (.own x)) (k:∀ b u,b≠e→s.heap.get? b=some u→h'.get? b=some u) (heo:∃ u,h'.get? e=some u)
  (new:ObjOk X.prog X.w (upd H x o) h' x o):Inv X pins σ (upd H x o) { s with heap:=h',toks:=t' }:=I.un (Un.write mu he k heo) (I.hok.write mu he k heo new)
theorem Inv.weak {σ':List (Option V)} (I:Inv X pins σ H s) (hl:σ'.length=σ.length) (w:∀ (i:Nat) v,σ'[i]?=some (some v)→σ[i]?=some (some v)) (wk:∀ (i:Nat) v,X.kn i=some v→σ'[i]?=some (some v)):Inv X pins σ' H s :=
 ⟨I.ok,I.os,I.bare,I.base,let ⟨m,hn,hl'⟩:=I.loc; ⟨m,hn,fun i x v e1 e2 e3=>hl' i x v e1 (w i v e2) e3⟩,I.cell,I.free,I.freeC,I.pin,I.hok,hl.trans I.len,wk⟩
theorem Inv.pins_of {pins':List (Addr × Obj)} (I:Inv X pins σ H s) (h:∀ p∈pins',s.heap.get? p.1=some p.2∧H p.1=none∧p.1≠X.env.locals∧p.1 ∉ X.fs∧∀ v,p.2.data≠.cell v):Inv X pins' σ H s :=
 ⟨I.ok,I.os,I.bare,I.base,I.loc,I.cell,I.free,I.freeC,fun p hp=>(List.mem_append.mp hp).elim (fun z=>I.pin p (List.mem_append_left _ z)) (h p),I.hok,I.len,I.kno⟩
theorem nodup_ix {N:List Str} (hN:N.Nodup) {i j:Nat} {x:Str} (a:N[i]?=some x) (b:N[j]?=some x):i=j:=by
 obtain ⟨h1,e1⟩:=List.getElem?_eq_some_iff.mp a
 obtain ⟨h2,e2⟩:=List.getElem?_eq_some_iff.mp b
 exact (List.getElem_inj hN).mp (e1.trans e2.symm)
theorem store_ok2 {M:Model} {A:Around} {E:Value→Shared→Prop} {i:Nat} {x:Str} {v:V} {u:Value} {Q:Unit→Shared→Prop} (I:Inv X pins σ H s) (hN:X.N.Nodup) (hi:X.N[i]?=some x) (hx:Loc X.env.scope x) (r:RelV v u)
  (h:∀ s',Inv X pins (σ.set i (some v)) H s'→(∃ a,Heap.SameBut a s.heap s'.heap∧(a=X.env.locals∨X.env.cells.lookup x=some a))→Q () s') (hf:X.fn x=true∨X.env.scope.names.lookup x=some .local:=by first | exact .inl rfl | exact .inr rfl | assumption) (hkn:X.kn i=Option.none:=by rfl):wpAny M A (storeName X.env x u) Q E s:=by
 have kset:∀ (j:Nat) (v2:V),X.kn j=some v2→(σ.set i (some v))[j]?=some (some v2):=fun j v2 z=>by
  have hj:i≠j:=fun e=>by subst e; rw [hkn] at z; cases z
  rw [List.getElem?_set_ne hj]
  exact I.kno j v2 z
 obtain ⟨m,hn,hl⟩:=id I.loc
 have hcls:(X.env.scope.kind == .class || (X.env.scope.kind == .module && X.env.locals != X.env.globals))=false:=by rw [I.ok.kind]; rfl
 have hiσ:i < σ.length:=by rw [I.len]; exact (List.getElem?_eq_some_iff.mp hi).1
 have cne:=I.cne
 have tracked:∀ {a:Addr} {h':Heap},(∃ o,s.heap.get? a=some o∧H a=none)→Heap.SameBut a s.heap h'→HOk X.prog X.w H h':=fun {a h'} ha hs b ob e=>by
  obtain ⟨_,_,hfree⟩:=ha
  refine (I.hok b ob e).stay (fun c w' hc q=>(hs.2 c ?_).trans q) (fun _ q=>q) fun _ _ q=>q
  rintro rfl
  rcases hc with rfl | hc
  ·rw [hfree] at e; cases e
  ·rw [hfree] at hc; cases hc
 rcases hx with hk | hk
 ·refine wpAny_storeName_local hk hn (fun h' hn' hs=>?_) hcls
  obtain ⟨oL,_,_,hoL,_⟩:=id hn
  refine h _ ⟨I.ok,I.os,I.bare,⟨fun b o e n hb hx=>?_,fun b o e n hb hx=>?_,I.base.free,fun b o e hx=>?_,I.base.tups,I.base.frzs,I.base.tbls⟩,⟨_,hn',fun j y v' e1 e2 e3=>?_⟩,fun y c e=>?_,I.free,I.freeC,fun p hp=>?_,tracked ⟨oL,hoL,I.free⟩ hs,by simpa using I.len,kset⟩ ⟨_,hs,.inl rfl⟩
  ·exact (hs.2 b (Nat.ne_of_lt (Nat.lt_of_lt_of_le (Heap.lt_size e) I.ok.above))).trans (I.base.keep b o e n hb hx)
  ·obtain ⟨sl,e1⟩:=I.base.slot b o e n hb hx
   exact ⟨sl,(hs.2 b (Nat.ne_of_lt (Nat.lt_of_lt_of_le (Heap.lt_size e) I.ok.above))).trans e1⟩
  ·obtain ⟨o',e1⟩:=I.base.there b o e hx
   exact ⟨o',(hs.2 b (Nat.ne_of_lt (Nat.lt_of_lt_of_le (Heap.lt_size e) I.ok.above))).trans e1⟩
  ·by_cases hj:j=i
   ·subst hj
    rw [hi] at e1; cases e1
    rw [List.getElem?_set_self hiσ] at e2
    cases e2
    exact ⟨u,r,.inl ⟨hk,by simp⟩⟩
   ·rw [List.getElem?_set_ne (Ne.symm hj)] at e2
    obtain ⟨u',r',q⟩:=hl j y v' e1 e2 e3
    refine ⟨u',r',?_⟩
    rcases q with ⟨k,e⟩ | ⟨k,c,e,z⟩
    ·refine .inl ⟨k,?_⟩
     have:y≠x:=fun e=>hj (nodup_ix hN e1 (e ▸ hi))
     simp [this,e]
    ·exact .inr ⟨k,c,e,z.sameBut hs (cne y c e)⟩
  ·obtain ⟨w',z⟩:=I.cell y c e
   exact ⟨w',z.sameBut hs (cne y c e)⟩
  ·obtain ⟨e,n,ne,nf,d⟩:=I.pin p hp
   exact ⟨(hs.2 p.1 ne).trans e,n,ne,nf,d⟩
 ·have hfn:X.fn x=true:=by
   rcases hf with z | z
   ·exact z
   ·rw [z] at hk; cases hk
  obtain ⟨c,hc⟩:=I.ok.has x (.inl hk)
  obtain ⟨w',z⟩:=I.cell x c hc
  refine wpAny_storeName_cell I.ok.kind hk hc z (fun h' hc' hs=>?_)
  obtain ⟨oc,hoc,hocd⟩:=id z
  refine h { s with heap:=h' } ⟨I.ok,I.os,I.bare,⟨fun b o e n hb hx=>?_,fun b o e n hb hx=>?_,I.base.free,fun b o e hx=>?_,I.base.tups,I.base.frzs,I.base.tbls⟩,⟨m,hn.sameBut hs (Ne.symm (cne x c hc)),fun j y v' e1 e2 e3=>?_⟩,fun y c' e=>?_,I.free,I.freeC,fun p hp=>?_,tracked ⟨oc,hoc,I.freeC x c hc⟩ hs,by simpa using I.len,kset⟩ ⟨c,hs,.inr hc⟩
  ·exact (hs.2 b (Nat.ne_of_lt (Nat.lt_of_lt_of_le (Heap.lt_size e) (I.ok.cab x c hfn hc)))).trans (I.base.keep b o e n hb hx)
  ·obtain ⟨sl,e1⟩:=I.base.slot b o e n hb hx
   exact ⟨sl,(hs.2 b (Nat.ne_of_lt (Nat.lt_of_lt_of_le (Heap.lt_size e) (I.ok.cab x c hfn hc)))).trans e1⟩
  ·obtain ⟨o',e1⟩:=I.base.there b o e hx
   exact ⟨o',(hs.2 b (Nat.ne_of_lt (Nat.lt_of_lt_of_le (Heap.lt_size e) (I.ok.cab x c hfn hc)))).trans e1⟩
  ·by_cases hj:j=i
   ·subst hj
    rw [hi] at e1; cases e1
    rw [List.getElem?_set_self hiσ] at e2
    cases e2
    exact ⟨u,r,.inr ⟨.inl hk,c,hc,hc'⟩⟩
   ·rw [List.getElem?_set_ne (Ne.symm hj)] at e2
    obtain ⟨u',r',q⟩:=hl j y v' e1 e2 e3
    refine ⟨u',r',?_⟩
    rcases q with q | ⟨k,c',e,z'⟩
    ·exact .inl q
    ·refine .inr ⟨k,c',e,z'.sameBut hs ?_⟩
     rintro rfl
     exact hj (nodup_ix hN e1 (I.ok.inj _ _ _ e hc ▸ hi))
  ·by_cases hcc:c'=c
   ·subst hcc; exact ⟨_,hc'⟩
   ·obtain ⟨w2,z2⟩:=I.cell y c' e
    exact ⟨w2,z2.sameBut hs hcc⟩
  ·obtain ⟨e,n,ne,nf,d⟩:=I.pin p hp
   refine ⟨(hs.2 p.1 ?_).trans e,n,ne,nf,d⟩
   intro q
   rw [q,hoc] at e
   have q':oc=p.2:=Option.some.inj e
   exact d w' (by rw [← q']; exact hocd)
theorem store_ok {M:Model} {A:Around} {E:Value→Shared→Prop} {i:Nat} {x:Str} {v:V} {u:Value} {Q:Unit→Shared→Prop} (I:Inv X pins σ H s) (hN:X.N.Nodup) (hi:X.N[i]?=some x) (hx:Loc X.env.scope x) (r:RelV v u)
  (h:∀ s',Inv X pins (σ.set i (some v)) H s'→Q () s') (hf:X.fn x=true∨X.env.scope.names.lookup x=some .local:=by first | exact .inl rfl | exact .inr rfl | assumption) (hkn:X.kn i=Option.none:=by rfl):wpAny M A (storeName X.env x u) Q E s :=
 store_ok2 I hN hi hx r (fun s' I' _=>h s' I') hf hkn
theorem Inv.call' {s':Shared} {ch:List Addr} (I:Inv X pins σ H s) (ho:s'.os=s.os) (u:Un (frs X.stack) ch H H' s.heap s'.heap) (hok:HOk X.prog X.w H' s'.heap) (hg:AllBare s'.gens)
  (hch:∀ b∈ch,(b∈X.ex∨X.s₀.heap.objs.size≤b)∧b≠X.env.locals∧(∀ x c,X.env.cells.lookup x=some c→c≠b)∧∀ p∈X.pn ++ pins,p.1≠b):Inv X pins σ H' s':=by
 obtain ⟨h',g',d',t',o'⟩:=s'
 have e:o'=s.os:=ho
 subst e
 exact I.call (g':=g') (t':=t') (d':=d') u hok hg hch
end
abbrev XK:=Value→Option Addr→Hp→Prop
abbrev St:=List (Option V)
abbrev VK:=V→Hp→Prop
abbrev TE:=St→Hp→VK→Prop
abbrev TT:=St→Hp→(Bool→Hp→Prop)→Prop
abbrev TA:=St→Hp→(List V→Hp→Prop)→Prop
structure Ends where
 nx:St→Hp→Prop
 rt:VK
 bk:St→Hp→Prop:=fun _ _=>False
 ct:St→Hp→Prop:=fun _ _=>False
abbrev TS:=Ends→St→Hp→Prop
def EP (X:Cx) (pins:List (Addr × Obj)) (σ:St) (Q:VK) (u:Value) (s':Shared):Prop:=∃ v H',Inv X pins σ H' s'∧RelV v u∧Q v H'
def TP (X:Cx) (pins:List (Addr × Obj)) (σ:St) (Q:Bool→Hp→Prop) (b:Bool) (s':Shared):Prop:=∃ H',Inv X pins σ H' s'∧Q b H'
def AP (X:Cx) (pins:List (Addr × Obj)) (σ:St) (Q:List V→Hp→Prop) (us:List Value) (s':Shared):Prop:=∃ vs H',Inv X pins σ H' s'∧Vals vs us∧Q vs H'
def SP (X:Cx) (pins:List (Addr × Obj)) (D:Ends) (f:Flow) (s':Shared):Prop :=
 match f with
 | .next=>∃ σ' H',Inv X pins σ' H' s'∧D.nx σ' H'
 | .brk=>∃ σ' H',Inv X pins σ' H' s'∧D.bk σ' H'
 | .cont=>∃ σ' H',Inv X pins σ' H' s'∧D.ct σ' H'
 | .ret u=>∃ v σ' H',Inv X pins σ' H' s'∧RelV v u∧D.rt v H'
def PE (X:Cx) (e:Expr) (t:TE):Prop :=
 ∀ (pins:List (Addr × Obj)) (s:Shared) (σ:St) (H:Hp) (Q:VK),Inv X pins σ H s→t σ H Q→wpAny (model X.prog X.w) X.A (eval e X.env) (EP X pins σ Q) X.xe s
def PT (X:Cx) (e:Expr) (t:TT):Prop :=
 ∀ (pins:List (Addr × Obj)) (s:Shared) (σ:St) (H:Hp) (Q:Bool→Hp→Prop),Inv X pins σ H s→t σ H Q→wpAny (model X.prog X.w) X.A (isTrue e X.env (eval e X.env)) (TP X pins σ Q) X.xe s
def PW (X:Cx) (e:Expr) (t:TT):Prop :=
 ∀ (whole:Sem Value) (pins:List (Addr × Obj)) (s:Shared) (σ:St) (H:Hp) (Q:Bool→Hp→Prop),Inv X pins σ H s→t σ H Q→wpAny (model X.prog X.w) X.A (isTrue e X.env whole) (TP X pins σ Q) X.xe s
theorem PW.pt {X:Cx} {e:Expr} {t:TT} (h:PW X e t):PT X e t:=h _
def PA (X:Cx) (es:List Expr) (t:TA):Prop :=
 ∀ (pos:Pos) (pins:List (Addr × Obj)) (s:Shared) (σ:St) (H:Hp) (Q:List V→Hp→Prop),Inv X pins σ H s→t σ H Q→wpAny (model X.prog X.w) X.A (spliced (backTo pos (starEach es X.env))) (AP X pins σ Q) X.xe s
def PS (X:Cx) (st:Stmt) (t:TS):Prop :=
 ∀ (pins:List (Addr × Obj)) (s:Shared) (σ:St) (H:Hp) (D:Ends),Inv X pins σ H s→t D σ H→wpAny (model X.prog X.w) X.A (exec st X.env) (SP X pins D) X.xe s
def PSs (X:Cx) (st:List Stmt) (t:TS):Prop :=
 ∀ (pins:List (Addr × Obj)) (s:Shared) (σ:St) (H:Hp) (D:Ends),Inv X pins σ H s→t D σ H→wpAny (model X.prog X.w) X.A (execs st X.env) (SP X pins D) X.xe s
theorem thn {α:Type} {t:Sem α} {Q Q':α→Shared→Prop} {M:Model} {A:Around} {E:Value→Shared→Prop} {s:Shared} (h:wpAny M A t Q E s) (hQ:∀ a s,Q a s→Q' a s):wpAny M A t Q' E s:=wpAny_mono h hQ fun _ _ x=>x
end L2
namespace L2
open PySem PySem.Spec PyProof.Rows
section
variable {X : Cx}
def tVar (i:Nat):TE:=fun σ H Q=>∃ v,σ[i]?=some (some v)∧Q v H
def tC (v:V):TE:=fun _ H Q=>Q v H
theorem pe_var {i:Nat} {x:Str} {pos:Pos} (hN:X.N[i]?=some x) (hv:Vis X.env.scope x) (hd:(x == ("__debug__":Str))=false:=by decide) (hcd:(x == ("__classdict__":Str))=false:=by decide):PE X (.Name x pos) (tVar i):=by
 intro pins s σ H Q I h
 obtain ⟨v,e,h⟩:=h
 obtain ⟨m,hn,hl⟩:=I.loc
 obtain ⟨u,r,l⟩:=hl i x v hN e hv
 have fin:EP X pins σ Q u s:=⟨v,H,I,r,h⟩
 rcases l with ⟨hk,hm⟩ | ⟨hk,c,hc,hcell⟩
 ·exact wpAny_Name (wpAny_loadName_local I.ok.kind hk hn hm fin) hd
 ·rcases hk with hk | hk
  ·exact wpAny_Name (wpAny_loadName_cell I.ok.kind hk hc hcell fin) hd
  ·exact wpAny_Name (wpAny_loadName_free I.ok.kind hk hc hcell fin hcd) hd
theorem pe_int {i j pos}:PE X (.Constant (.int i) j pos) (tC (.int i)):=fun _ _ _ H _ I h=>wpAny_Constant_int ⟨.int i,H,I.tok _,⟨_,rfl⟩,h⟩
theorem pe_bl {b j pos}:PE X (.Constant (.bool b) j pos) (tC (.bl b)):=fun _ _ _ H _ I h=>Constant_bool ⟨.bl b,H,I,rfl,h⟩
theorem pe_non {j pos}:PE X (.Constant .none j pos) (tC .non):=fun _ _ _ H _ I h=>Constant_none ⟨.non,H,I,rfl,h⟩
theorem pe_str {x j pos}:PE X (.Constant (.str x) j pos) (tC (.str x)):=fun _ _ _ H _ I h=>Calls.Constant_str ⟨.str x,H,I.tok _,⟨_,rfl⟩,h⟩
def Gl (X:Cx) (x:Str):Prop:=X.env.kindOf x=some .globalImplicit
theorem ld_glob {E:Value→Shared→Prop} {pins:List (Addr × Obj)} {s:Shared} {σ:St} {H:Hp} {x:Str} {u:Value} {pos:Pos} {Q:Value→Shared→Prop} (I:Inv X pins σ H s) (hg:Gl X x) (hm:X.mg x=some u) (h:Q u s)
  (hd:(x == ("__debug__":Str))=false:=by decide):wpAny (model X.prog X.w) X.A (eval (.Name x pos) X.env) Q E s :=
 Calls.Name_function_global I.ok.kind hg (Calls.loadGlobal_global (by rw [I.ok.glob]; exact I.mod.glob.keeps I.bk) hm h) hd
theorem ld_blt {E:Value→Shared→Prop} {pins:List (Addr × Obj)} {s:Shared} {σ:St} {H:Hp} {x:Str} {u:Value} {pos:Pos} {Q:Value→Shared→Prop} (I:Inv X pins σ H s) (hg:Gl X x) (hm:X.mg x=none) (hv:bootBuiltins x=some u) (h:Q u s)
  (hn:x≠"__name__":=by decide) (hd:(x == ("__debug__":Str))=false:=by decide):wpAny (model X.prog X.w) X.A (eval (.Name x pos) X.env) Q E s:=by
 obtain ⟨mb,h1,h2⟩:=I.mod.blt
 exact Calls.Name_function_global I.ok.kind hg (Calls.loadGlobal_builtin (by rw [I.ok.glob]; exact I.mod.glob.keeps I.bk) hm (by rw [I.ok.blt]; exact h1.keeps I.bk) ((h2 x hn).trans hv) h) hd
theorem pe_glob {x:Str} {v:V} {u:Value} {pos:Pos} (hg:Gl X x) (hm:X.mg x=some u) (r:RelV v u) (hd:(x == ("__debug__":Str))=false:=by decide):PE X (.Name x pos) (tC v) :=
 fun _ _ _ H _ I h=>ld_glob I hg hm ⟨v,H,I,r,h⟩ hd
theorem pe_bltn {x:Str} {v:V} {u:Value} {pos:Pos} (hg:Gl X x) (hm:X.mg x=none) (hv:bootBuiltins x=some u) (r:RelV v u) (hn:x≠"__name__":=by decide) (hd:(x == ("__debug__":Str))=false:=by decide):PE X (.Name x pos) (tC v) :=
 fun _ _ _ H _ I h=>ld_blt I hg hm hv ⟨v,H,I,r,h⟩ hn hd
def t2I (ta tb:TE) (k:Int→Int→Hp→Prop):St→Hp→Prop:=fun σ H=>ta σ H fun x H1=>tb σ H1 fun y H2=>∃ i j,x=.int i∧y=.int j∧k i j H2
variable {a b : Expr} {ta tb : TE} {pos : Pos}
def PC (X:Cx) (op:CmpOp) (a b:Expr) (t:TE):Prop :=
 ∀ (pins:List (Addr × Obj)) (s:Shared) (σ:St) (H:Hp) (Q:VK),Inv X pins σ H s→t σ H Q →
  wpAny (model X.prog X.w) X.A (eval a X.env) (fun v s₁=>wpAny (model X.prog X.w) X.A (eval b X.env) (fun u s₂=>wpAny (model X.prog X.w) X.A (compareOp op v u) (EP X pins σ Q) X.xe s₂) X.xe s₁) X.xe s
theorem nobehind (b:Expr) {op:CmpOp} (h:op≠.In) (h2:op≠.NotIn):behindInMarks op b=false:=by
 have e1:(op == CmpOp.In)=false:=by cases op <;> first | rfl | exact absurd rfl h
 have e2:(op == CmpOp.NotIn)=false:=by cases op <;> first | rfl | exact absurd rfl h2
 cases b <;> simp [behindInMarks,e1,e2]
def tCmp (p:Int→Int→Bool) (ta tb:TE):TE:=fun σ H Q=>t2I ta tb (fun i j H2=>Q (.bl (p i j)) H2) σ H
abbrev tLt:TE→TE→TE:=tCmp fun i j=>decide (i < j)
abbrev tLe:TE→TE→TE:=tCmp fun i j=>decide (i≤j)
abbrev tGt:TE→TE→TE:=tCmp fun i j=>decide (j < i)
abbrev tGe:TE→TE→TE:=tCmp fun i j=>decide (j≤i)
abbrev tEqI:TE→TE→TE:=tCmp fun i j=>decide (i=j)
abbrev tNeI:TE→TE→TE:=tCmp fun i j=>!decide (i=j)
def tIsN (ta:TE):TE:=fun σ H Q=>ta σ H fun x H1=>Q (.bl (decide (x=.non))) H1
theorem RelV.none_iff {x:V} {v:Value} (r:RelV x v):(v == Value.none)=decide (x=.non):=by
 cases x with
 | non=>cases r; rfl
 | bl _=>cases r; rfl
 | int _=>obtain ⟨t,rfl⟩:=r; rfl
 | str _=>obtain ⟨t,rfl⟩:=r; rfl
 | byt _=>obtain ⟨t,rfl⟩:=r; rfl
 | flt _=>obtain ⟨t,rfl⟩:=r; rfl
 | ref _=>cases r; rfl
 | ty _=>cases r; rfl
theorem pc_isN {j pos'} (ha:PE X a ta):PC X .Is a (.Constant .none j pos') (tIsN ta):=by
 intro pins s σ H Q I h
 refine thn (ha pins s σ H _ I h) fun v s1 ⟨x,H1,I1,r1,q1⟩=>?_
 exact Constant_none (is_none_gen ⟨.bl _,H1,I1,by rw [r1.none_iff]; rfl,q1⟩)
def tB (t:TE):TT:=fun σ H Q=>t σ H fun x H1=>∃ c,x=.bl c∧Q c H1
theorem pe_cmp {op:CmpOp} {t:TE} (h:PC X op a b t) (h1:behindInMarks op b=false:=by first | exact nobehind _ (by decide) (by decide) | rfl):PE X (.Compare a [op] [b] pos) t:=fun pins s σ H Q I hw=>wpAny_Compare1 (h pins s σ H Q I hw) h1
theorem pt_cmp {op:CmpOp} {t:TE} (h:PC X op a b t) (h1:behindInMarks op b=false:=by first | exact nobehind _ (by decide) (by decide) | rfl):PT X (.Compare a [op] [b] pos) (tB t):=by
 intro pins s σ H Q I hw
 refine wpAny_isTrue_Compare1 (thn (h pins s σ H _ I hw) fun v s1 h1=>thn h1 fun u s2 h2=>thn h2 fun c s3 ⟨x,H1,I1,r1,q1⟩=>?_) h1
 obtain ⟨d,rfl,q⟩:=q1
 cases r1
 exact wpAny_truthy_bool ⟨H1,I1,q⟩
theorem pt_val {e:Expr} {t:TE} (h:PE X e t) (he:∀ whole,isTrue e X.env whole=(do let v ← whole; standAt e.pos; holding [v] (truthy v)):=by intro _; rfl):PT X e (tB t):=by
 intro pins s σ H Q I hw
 refine isTrue_plain (thn (h pins s σ H _ I hw) fun v s1 ⟨x,H1,I1,r1,q1⟩=>?_) (he _)
 obtain ⟨d,rfl,q⟩:=q1
 cases r1
 exact wpAny_truthy_bool ⟨H1,I1,q⟩
variable {tA tB' : TT} {rest : List Expr}
def tAnd (t u:TT):TT:=fun σ H Q=>t σ H fun c H1=>if c=true then u σ H1 Q else Q false H1
def tOr (t u:TT):TT:=fun σ H Q=>t σ H fun c H1=>if c=true then Q true H1 else u σ H1 Q
def tNot (t:TT):TT:=fun σ H Q=>t σ H fun c H1=>Q (!c) H1
theorem pw_and1 (ha:PT X a tA):PW X (.BoolOp .And [a] pos) tA:=by
 intro wh pins s σ H Q I h
 refine isTrue_and (thn (ha pins s σ H Q I h) fun c s1 e=>?_)
 cases c with
 | true=>exact isTrue_and_nil e
 | false=>exact e
theorem pw_or1 (ha:PT X a tA):PW X (.BoolOp .Or [a] pos) tA:=by
 intro wh pins s σ H Q I h
 refine isTrue_or (thn (ha pins s σ H Q I h) fun c s1 e=>?_)
 cases c with
 | false=>exact isTrue_or_nil e
 | true=>exact e
theorem pw_and (ha:PT X a tA) (hb:PW X (.BoolOp .And (b :: rest) pos) tB'):PW X (.BoolOp .And (a :: b :: rest) pos) (tAnd tA tB'):=by
 intro wh pins s σ H Q I h
 refine isTrue_and (thn (ha pins s σ H _ I h) fun c s1 ⟨H1,I1,q1⟩=>?_)
 cases c with
 | true=>exact hb wh pins s1 σ H1 Q I1 q1
 | false=>exact ⟨H1,I1,q1⟩
theorem pw_or (ha:PT X a tA) (hb:PW X (.BoolOp .Or (b :: rest) pos) tB'):PW X (.BoolOp .Or (a :: b :: rest) pos) (tOr tA tB'):=by
 intro wh pins s σ H Q I h
 refine isTrue_or (thn (ha pins s σ H _ I h) fun c s1 ⟨H1,I1,q1⟩=>?_)
 cases c with
 | true=>exact ⟨H1,I1,q1⟩
 | false=>exact hb wh pins s1 σ H1 Q I1 q1
theorem pt_not (ha:PT X a tA):PT X (.UnaryOp .Not a pos) (tNot tA):=by
 intro pins s σ H Q I h
 exact isTrue_not (ha pins s σ H (fun c H1=>Q (!c) H1) I h)
def tAndV (ta tb:TE):TE:=fun σ H Q=>ta σ H fun x H1=>∃ c,x=.bl c∧if c=true then tb σ H1 Q else Q (.bl false) H1
def tOrV (ta tb:TE):TE:=fun σ H Q=>ta σ H fun x H1=>∃ c,x=.bl c∧if c=true then Q (.bl true) H1 else tb σ H1 Q
theorem pe_one {op} {t:TE} (h:PE X a t):PE X (.BoolOp op [a] pos) t:=fun pins s σ H Q I hw=>BoolOp_one (h pins s σ H Q I hw)
theorem pe_and (ha:PE X a ta) (hb:PE X (.BoolOp .And (b :: rest) pos) tb):PE X (.BoolOp .And (a :: b :: rest) pos) (tAndV ta tb):=by
 intro pins s σ H Q I h
 refine BoolOp_and (thn (ha pins s σ H _ I h) fun v s1 ⟨x,H1,I1,r1,q1⟩=>?_)
 obtain ⟨c,rfl,q1⟩:=q1
 cases r1
 refine wpAny_truthy_bool ?_
 cases c with
 | true=>exact hb pins s1 σ H1 Q I1 q1
 | false=>exact ⟨.bl false,H1,I1,rfl,q1⟩
theorem pe_or (ha:PE X a ta) (hb:PE X (.BoolOp .Or (b :: rest) pos) tb):PE X (.BoolOp .Or (a :: b :: rest) pos) (tOrV ta tb):=by
 intro pins s σ H Q I h
 refine BoolOp_or (thn (ha pins s σ H _ I h) fun v s1 ⟨x,H1,I1,r1,q1⟩=>?_)
 obtain ⟨c,rfl,q1⟩:=q1
 cases r1
 refine wpAny_truthy_bool ?_
 cases c with
 | false=>exact hb pins s1 σ H1 Q I1 q1
 | true=>exact ⟨.bl true,H1,I1,rfl,q1⟩
end
end L2
namespace L2
open PySem PySem.Spec PyProof.Rows
def SqL (K:W.Frag) (H:Hp) (a:Addr) (xs:List V):Prop :=
 Rd H a (.lst xs) ∨
  ∃ (o:Obj) (its:Array Value) (n:Nat),K.lookup a=some o∧o.cls=.type "list"∧o.dict=none∧o.data=.seq its n∧its.size≤sizeLine∧Vals xs its.toList
def SqT (K:W.Frag) (H:Hp) (a:Addr) (xs:List V):Prop :=
 Rd H a (.tup xs) ∨
  ∃ (o:Obj) (its:Array Value) (n:Nat),K.lookup a=some o∧o.cls=.type "tuple"∧o.data=.seq its n∧its.size≤sizeLine∧Vals xs its.toList
def absV:Value→Option V
 | .none=>some .non
 | .bool b=>some (.bl b)
 | .int i _=>some (.int i)
 | .str x _=>some (.str x)
 | .bytes b _=>some (.byt b)
 | .float b _=>some (.flt b)
 | .ref a=>some (.ref a)
 | .type n=>some (.ty n)
 | _=>none
theorem RelV.abs {x:V} {u:Value} (r:RelV x u):absV u=some x:=by
 cases x with
 | non=>cases r; rfl
 | bl _=>cases r; rfl
 | int _=>obtain ⟨t,rfl⟩:=r; rfl
 | str _=>obtain ⟨t,rfl⟩:=r; rfl
 | byt _=>obtain ⟨t,rfl⟩:=r; rfl
 | flt _=>obtain ⟨t,rfl⟩:=r; rfl
 | ref _=>cases r; rfl
 | ty _=>cases r; rfl
theorem RelV.inj {x y:V} {u:Value} (r:RelV x u) (q:RelV y u):x=y:=Option.some.inj (r.abs.symm.trans q.abs)
theorem Vals.inj:∀ {xs ys:List V} {us:List Value},Vals xs us→Vals ys us→xs=ys
 | _,_,_,.nil,.nil=>rfl
 | _,_,_,.cons r t,.cons r' t'=>by rw [r.inj r',Vals.inj t t']
section
variable {X : Cx} {pins : List (Addr × Obj)} {σ : St} {H : Hp} {s : Shared} {a : Addr} {xs ys : List V}
theorem SqL.of {K:W.Frag} (h:H a=some (.lst xs)):SqL K H a xs:=.inl (.inl h)
theorem SqT.of {K:W.Frag} (h:H a=some (.tup xs)):SqT K H a xs:=.inl (.inl h)
theorem Inv.list (I:Inv X pins σ H s) (h:SqL X.K H a xs):∃ its:List Value,Vals xs its∧PlainL s.heap a its.toArray∧xs.length≤sizeLine:=by
 rcases h with h | ⟨o,its,n,hk,hc,hd,hs,hz,r⟩
 ·obtain ⟨z,its,n,r,e⟩:=h.ok I.hok
  exact ⟨its,r,⟨_,n,e,rfl,rfl,rfl⟩,z⟩
 ·refine ⟨its.toList,r,⟨o,n,I.kIn a o hk,hc,hd,by simpa using hs⟩,?_⟩
  have e:=r.length
  simp only [Array.length_toList] at e
  omega
theorem Inv.tuple (I:Inv X pins σ H s) (h:SqT X.K H a xs):∃ its:List Value,Vals xs its∧IsTup s.heap a its.toArray∧xs.length≤sizeLine:=by
 rcases h with h | ⟨o,its,n,hk,hc,hs,hz,r⟩
 ·obtain ⟨z,its,r,p⟩:=h.ok I.hok
  exact ⟨its,r,p,z⟩
 ·refine ⟨its.toList,r,⟨o,I.kIn a o hk,hc,n,by simpa using hs⟩,?_⟩
  have e:=r.length
  simp only [Array.length_toList] at e
  omega
theorem Inv.list_inj (I:Inv X pins σ H s) (h:SqL X.K H a xs) (h':SqL X.K H a ys):xs=ys:=by
 obtain ⟨its,r,⟨o,n,e,_,_,d⟩,_⟩:=I.list h
 obtain ⟨its',r',⟨o',n',e',_,_,d'⟩,_⟩:=I.list h'
 rw [e] at e'; cases e'
 rw [d] at d'
 injection d' with d1 _
 have:its=its':=by simpa using congrArg Array.toList d1
 subst this
 exact r.inj r'
end
abbrev Cx.wish (X:Cx) (E:Value→Shared→Prop):Cx:={ X with xe:=E }
abbrev Cx.nox (X:Cx):Cx:=X.wish fun _ _=>False
theorem Cx.Ok.wish {X:Cx} (ok:X.Ok) (E:Value→Shared→Prop):(X.wish E).Ok :=
 ⟨ok.mod,ok.kind,ok.glob,ok.blt,ok.above,ok.inj,ok.has,ok.cab,ok.hd,ok.frames,ok.stk,ok.exf,ok.bs,ok.bsz,ok.noex,ok.exfs,ok.funs,ok.frf⟩
theorem Cx.Ok.unwish {X:Cx} {E:Value→Shared→Prop} (ok:(X.wish E).Ok):X.Ok :=
 ⟨ok.mod,ok.kind,ok.glob,ok.blt,ok.above,ok.inj,ok.has,ok.cab,ok.hd,ok.frames,ok.stk,ok.exf,ok.bs,ok.bsz,ok.noex,ok.exfs,ok.funs,ok.frf⟩
section
variable {X : Cx} {pins : List (Addr × Obj)} {σ : St} {H : Hp} {s : Shared} {E : Value → Shared → Prop}
theorem Inv.wish (I:Inv X pins σ H s) (E:Value→Shared→Prop):Inv (X.wish E) pins σ H s:=⟨I.ok.wish E,I.os,I.bare,I.base,I.loc,I.cell,I.free,I.freeC,I.pin,I.hok,I.len,I.kno⟩
theorem Inv.unwish (I:Inv (X.wish E) pins σ H s):Inv X pins σ H s:=⟨I.ok.unwish,I.os,I.bare,I.base,I.loc,I.cell,I.free,I.freeC,I.pin,I.hok,I.len,I.kno⟩
theorem SP.unwish {D:Ends} {f:Flow} {s':Shared} (h:SP (X.wish E) pins D f s'):SP X pins D f s':=by
 cases f with
 | next=>obtain ⟨σ',H',I,q⟩:=h; exact ⟨σ',H',I.unwish,q⟩
 | brk=>obtain ⟨σ',H',I,q⟩:=h; exact ⟨σ',H',I.unwish,q⟩
 | cont=>obtain ⟨σ',H',I,q⟩:=h; exact ⟨σ',H',I.unwish,q⟩
 | ret u=>obtain ⟨v,σ',H',I,r,q⟩:=h; exact ⟨v,σ',H',I.unwish,r,q⟩
theorem PSs.nox {st:List Stmt} {t:TS} (h:PSs X.nox st t):PSs X st t:=fun pins s σ H D I hw =>
 wpAny_mono (h pins s σ H D (I.wish _) hw) (fun _ _ q=>q.unwish) fun _ _ z=>False.elim z
end
section
variable {X : Cx} {st : Stmt} {rest : List Stmt} {t u : TS} {e : Expr} {te : TE} {pos : Pos}
def tNext:TS:=fun D σ H=>D.nx σ H
def tSeq (t u:TS):TS:=fun D σ H=>t { D with nx:=u D } σ H
theorem pss_nil:PSs X [] tNext:=fun _ _ σ H _ I h=>wpAny_execs_nil ⟨σ,H,I,h⟩
theorem pss_cons (h1:PS X st t) (h2:PSs X rest u):PSs X (st :: rest) (tSeq t u):=by
 intro pins s σ H D I h
 refine wpAny_execs_cons (thn (h1 pins s σ H { D with nx:=u D } I h) fun f s1 q=>?_)
 cases f with
 | next =>
  obtain ⟨σ',H',I',q⟩:=q
  exact h2 pins s1 σ' H' D I' q
 | ret v=>exact q
 | brk=>exact q
 | cont=>exact q
theorem pss_one (h1:PS X st t):PSs X [st] t:=by
 intro pins s σ H D I h
 refine wpAny_execs_cons (thn (h1 pins s σ H D I h) fun f s1 q=>?_)
 cases f with
 | next=>exact wpAny_execs_nil q
 | ret v=>exact q
 | brk=>exact q
 | cont=>exact q
theorem Inv.quiet {pins:List (Addr × Obj)} {σ:St} {H:Hp} {s:Shared} (I:Inv X pins σ H s):interactive X.env=false:=by simp [interactive,I.ok.kind]
def tDrop (te:TE):TS:=fun D σ H=>te σ H fun _ H1=>D.nx σ H1
theorem ps_expr (he:PE X e te) (hs:swapsWith e none pos.line X.env=pure false:=by rfl):PS X (.Expr e pos) (tDrop te):=by
 intro pins s σ H D I h
 exact wpAny_Expr_any (thn (he pins s σ H _ I h) fun v s1 ⟨x,H1,I1,r1,q1⟩=>⟨σ,H1,I1,q1⟩) I.quiet hs
def tRet (te:TE):TS:=fun D σ H=>te σ H D.rt
theorem ps_ret (he:PE X e te):PS X (.Return (some e) pos) (tRet te):=by
 intro pins s σ H D I h
 exact wpAny_Return_some (thn (he pins s σ H _ I h) fun v s1 ⟨x,H1,I1,r1,q1⟩=>⟨x,σ,H1,I1,r1,q1⟩)
def tRetN:TS:=fun D _ H=>D.rt .non H
theorem ps_retN:PS X (.Return none pos) tRetN:=fun _ _ σ H _ I h=>wpAny_Return_none ⟨.non,σ,H,I,rfl,h⟩
def tIfS (c:TT) (t u:TS):TS:=fun D σ H=>c σ H fun b H1=>if b=true then t D σ H1 else u D σ H1
theorem ps_if {c:Expr} {a b:List Stmt} {tc:TT} (hc:PT X c tc) (ha:PSs X a t) (hb:PSs X b u):PS X (.If c a b pos) (tIfS tc t u):=by
 intro pins s σ H D I h
 refine wpAny_If (thn (hc pins s σ H _ I h) fun d s1 ⟨H1,I1,q1⟩=>?_)
 cases d with
 | true=>exact ha pins s1 σ H1 D I1 q1
 | false=>exact hb pins s1 σ H1 D I1 q1
end
abbrev TG:=V→St→Hp→(St→Hp→Prop)→Prop
abbrev TGs:=List V→St→Hp→(St→Hp→Prop)→Prop
def PG (X:Cx) (target:Expr) (t:TG):Prop :=
 ∀ (pins:List (Addr × Obj)) (s:Shared) (σ:St) (H:Hp) (v:V) (u:Value) (Q:St→Hp→Prop),Inv X pins σ H s→RelV v u→t v σ H Q →
  wpAny (model X.prog X.w) X.A (assign target X.env u) (fun _ s'=>∃ σ' H',Inv X pins σ' H' s'∧Q σ' H') X.xe s
def PGs (X:Cx) (ts:List Expr) (t:TGs):Prop :=
 ∀ (pins:List (Addr × Obj)) (s:Shared) (σ:St) (H:Hp) (vs:List V) (us:List Value) (Q:St→Hp→Prop),Inv X pins σ H s→Vals vs us→t vs σ H Q →
  wpAny (model X.prog X.w) X.A (assignInOrder ((assignEach ts X.env).map (·.2)) us) (fun _ s'=>∃ σ' H',Inv X pins σ' H' s'∧Q σ' H') X.xe s
abbrev TSet:=V→V→V→Hp→(Hp→Prop)→Prop
def PSet (X:Cx) (t:TSet):Prop :=
 ∀ (pins:List (Addr × Obj)) (s:Shared) (σ:St) (H:Hp) (o i v:V) (ov iv u:Value) (Q:Hp→Prop),Inv X pins σ H s→RelV o ov→RelV i iv→RelV v u→t o i v H Q →
  wpAny (model X.prog X.w) X.A (setItem ov iv u) (fun _ s'=>∃ H',Inv X pins σ H' s'∧Q H') X.xe s
abbrev TIp:=V→V→Hp→VK→Prop
section
variable {X : Cx} {pos : Pos}
def gName (i:Nat):TG:=fun v σ H Q=>Q (σ.set i (some v)) H
theorem pg_name {i:Nat} {x:Str} (hN:X.N.Nodup) (hi:X.N[i]?=some x) (hx:Loc X.env.scope x) (hf:X.fn x=true∨X.env.scope.names.lookup x=some .local:=by first | exact .inl rfl | exact .inr rfl | assumption) (hkn:X.kn i=Option.none:=by rfl):PG X (.Name x pos) (gName i):=by
 intro pins s σ H v u Q I r h
 exact wpAny_assign_Name (store_ok I hN hi hx r (fun s' I'=>⟨_,H,I',h⟩) hf hkn)
def gNil:TGs:=fun vs σ H Q=>vs=[]∧Q σ H
def gCons (t:TG) (u:TGs):TGs:=fun vs σ H Q=>∃ v r,vs=v :: r∧t v σ H fun σ' H'=>u r σ' H' Q
theorem pgs_nil:PGs X [] gNil:=by
 intro pins s σ H vs us Q I r h
 obtain ⟨e,h⟩:=h
 subst e
 cases r
 exact assignInOrder_nil ⟨σ,H,I,h⟩
theorem pgs_cons {e:Expr} {es:List Expr} {t:TG} {u:TGs} (h1:PG X e t) (h2:PGs X es u)
  (hs:(assignEach (e :: es) X.env).map (·.2)=assign e X.env :: (assignEach es X.env).map (·.2):=by rfl):PGs X (e :: es) (gCons t u):=by
 intro pins s σ H vs us Q I r h
 obtain ⟨v,vr,e1,h⟩:=h
 subst e1
 cases r with
 | cons r rr =>
  rw [hs]
  refine assignInOrder_cons (thn (h1 pins s σ H _ _ _ I r h) fun _ s1 ⟨σ1,H1,I1,q1⟩=>?_)
  exact h2 pins s1 σ1 H1 _ _ Q I1 rr q1
def gTup (K:W.Frag) (n:Nat) (t:TGs):TG:=fun v σ H Q=>∃ a xs,v=.ref a∧SqT K H a xs∧xs.length=n∧t xs σ H Q
theorem pg_tup {es:List Expr} {k:Nat} {t:TGs} {n:Nat} (hc:X.calm=true) (h:PGs X es t)
  (hn:(assignEach es X.env).length=n:=by rfl) (hst:(assignEach es X.env).findIdx? (·.1)=none:=by rfl):PG X (.Tuple es k pos) (gTup X.K n t):=by
 intro pins s σ H v u Q I r hw
 obtain ⟨a,xs,e1,hq,hl,hw⟩:=hw
 subst e1
 cases r
 obtain ⟨its,rv,ht,hz⟩:=I.tuple hq
 refine assign_Tuple_tuple (I.ok.hd hc) ht (by simp [hn,← hl,rv.length]) hst fun h' hx=>?_
 have I1:Inv X pins σ H { s with heap:=h' }:=I.kept (t':=s.toks) fun b o e=>hx b o (Nat.ne_of_lt (Heap.lt_size e)) e
 exact h pins _ σ H xs _ Q I1 (by simpa using rv) hw
def gSub (to ti:TE) (t:TSet):TG:=fun v σ H Q=>to σ H fun o H1=>ti σ H1 fun i H2=>t o i v H2 fun H3=>Q σ H3
theorem pg_sub {o i:Expr} {to ti:TE} {t:TSet} (ho:PE X o to) (hi:PE X i ti) (hs:PSet X t)
  (ha:∀ v,assign (.Subscript o i pos) X.env v=(do
   let ov ← holding [v] (eval o X.env)
   let iv ← holding [v,ov] (eval i X.env)
   standAt pos
   holding [v,ov,iv] (setItem ov iv v)
   release [v,ov,iv] []):=by intro _; rfl):PG X (.Subscript o i pos) (gSub to ti t):=by
 intro pins s σ H v u Q I r h
 rw [ha]
 refine wpAny_bind (wpAny_holding (thn (ho pins s σ H _ I h) fun ov s1 ⟨x,H1,I1,r1,q1⟩=>?_))
 refine wpAny_bind (wpAny_holding (thn (hi pins s1 σ H1 _ I1 q1) fun iv s2 ⟨y,H2,I2,r2,q2⟩=>?_))
 refine wpAny_bind (wpAny_standAt (wpAny_bind (wpAny_holding (thn (hs pins s2 σ H2 x y v ov iv u _ I2 r1 r2 r q2) fun _ s3 ⟨H3,I3,q3⟩=>?_))))
 exact wpAny_release ⟨σ,H3,I3,q3⟩
def tAsg (te:TE) (g:TG):TS:=fun D σ H=>te σ H fun x H1=>g x σ H1 D.nx
theorem ps_asg {tg e:Expr} {te:TE} {g:TG} (he:PE X e te) (hg:PG X tg g) (hs:swapsWithSole [tg] e pos.line X.env=pure false:=by rfl) (hw:swappedStores [tg] e X.env=pure none:=by rfl)
  (h1:(assignEach [tg] X.env).map (·.2)=[assign tg X.env]:=by rfl):PS X (.Assign [tg] e pos) (tAsg te g):=by
 intro pins s σ H D I h
 refine wpAny_Assign_stores (thn (he pins s σ H _ I h) fun v s1 ⟨x,H1,I1,r1,q1⟩=>?_) hs hw
 rw [h1]
 exact thn (hg pins s1 σ H1 x v _ I1 r1 q1) fun _ s2 q=>q
theorem ps_set {i:Nat} {x:Str} {e:Expr} {te:TE} {pos':Pos} (hN:X.N.Nodup) (hi:X.N[i]?=some x) (hx:Loc X.env.scope x) (he:PE X e te) (hs:swapsWith e (some (.Name x pos')) pos.line X.env=pure false:=by rfl) (hf:X.fn x=true∨X.env.scope.names.lookup x=some .local:=by first | exact .inl rfl | exact .inr rfl | assumption) (hkn:X.kn i=Option.none:=by rfl) :
  PS X (.Assign [.Name x pos'] e pos) (tAsg te (gName i)):=by
 intro pins s σ H D I h
 refine wpAny_Assign_Name (thn (he pins s σ H _ I h) fun v s1 ⟨y,H1,I1,r1,q1⟩=>?_) hs
 exact store_ok I1 hN hi hx r1 (fun s2 I2=>⟨_,H1,I2,q1⟩) hf hkn
end
section
variable {X : Cx} {pos : Pos}
def tWhile (c:TT) (tb:TS):TS:=fun D σ H=>∃ W:Nat→St→Hp→Prop,(∃ m,W m σ H)∧∀ m σ H,W m σ H →
 c σ H fun b H1=>if b=true then ∃ N:St→Hp→Prop,(∀ σ' H',N σ' H'→∃ m',m' < m∧W m' σ' H')∧tb { D with nx:=N,ct:=N,bk:=D.nx } σ H1 else D.nx σ H1
theorem ps_while {c:Expr} {body:List Stmt} {tc:TT} {tb:TS} (hp:PassesOwn (model X.prog X.w) X.A X.env X.xe) (hc:PT X c tc) (hb:PSs X body tb):PS X (.While c body [] pos) (tWhile tc tb):=by
 intro pins s σ H D I h
 obtain ⟨W,⟨m0,w0⟩,turn⟩:=h
 refine wpAny_While (codeAny_whileLoop (fun n s'=>∃ σ' H',Inv X pins σ' H' s'∧W n σ' H') ?_ m0 ⟨σ,H,I,w0⟩)
 rintro n s1 ⟨σ1,H1,I1,w1⟩
 refine wpAny_passesOwn hp (thn (hc pins s1 σ1 H1 _ I1 (turn n σ1 H1 w1)) fun b s2 ⟨H2,I2,q2⟩=>?_)
 cases b with
 | true =>
  obtain ⟨N,hN,q2⟩:=q2
  rw [if_pos rfl]
  refine wpAny_passesOwn hp (thn (hb pins s2 σ1 H2 _ I2 q2) fun f s3 q3=>?_)
  cases f with
  | next =>
   obtain ⟨σ3,H3,I3,n3⟩:=q3
   obtain ⟨m',hm,w3⟩:=hN σ3 H3 n3
   exact ⟨m',hm,σ3,H3,I3,w3⟩
  | cont =>
   obtain ⟨σ3,H3,I3,n3⟩:=q3
   obtain ⟨m',hm,w3⟩:=hN σ3 H3 n3
   exact ⟨m',hm,σ3,H3,I3,w3⟩
  | brk=>exact q3
  | ret v=>exact q3
 | false =>
  rw [if_neg Bool.false_ne_true]
  exact wpAny_execs_nil ⟨σ1,H2,I2,q2⟩
end
structure It where
 go:Nat→Hp→Prop
 yld:Nat→Hp→V→Hp→Prop
 stop:Nat→Hp→Prop
def FpOk (X:Cx) (pins:List (Addr × Obj)) (H:Hp) (b:Addr):Prop :=
 H b=none∧b≠X.env.locals∧b ∉ X.fs∧(b∈X.ex∨X.s₀.heap.objs.size≤b)∧(∀ x c,X.env.cells.lookup x=some c→c≠b)∧∀ p∈X.pn ++ pins,p.1≠b
theorem Inv.fpOk {X:Cx} {pins:List (Addr × Obj)} {σ:St} {H H':Hp} {s:Shared} {b:Addr} (I:Inv X pins σ H s) (hb:s.heap.objs.size≤b) (hn:H' b=none):FpOk X pins H' b:=by
 refine ⟨hn,Nat.ne_of_gt (Nat.lt_of_lt_of_le I.lt hb),I.nofs hb,.inr (Nat.le_trans I.sz hb),fun x c e z=>?_,fun p hp z=>?_⟩
 ·obtain ⟨v,q⟩:=I.cell x c e
  exact absurd (Nat.lt_of_lt_of_le q.lt (by rw [z]; exact hb)) (Nat.lt_irrefl _)
 ·exact absurd (Nat.lt_of_lt_of_le (Heap.lt_size (I.pin p hp).1) (by rw [z]; exact hb)) (Nat.lt_irrefl _)
structure Turn (P:Program) (w:World) (K:W.Frag) (tg:Expr) (J:It) (fp:List Addr) (it:Addr) (tn:Nat→Heap→Prop):Prop where
 mem:it∈fp
 obj:∀ i h,tn i h→∀ b∈fp,∃ o,h.get? b=some o∧∀ v,o.data≠.cell v
 keep:∀ i h h',tn i h→(∀ b∈fp,∀ o,h.get? b=some o→h'.get? b=some o)→tn i h'
 item:∀ (X:Cx),X.prog=P→X.w=w→X.K=K→X.calm=true→∀ (i:Nat) (pins:List (Addr × Obj)) (s:Shared) (σ:St) (H:Hp) (E:Value→Shared→Prop),Inv X pins σ H s→(∀ b∈fp,FpOk X pins H b)→tn i s.heap→J.go i H →
  wpAny (model P w) X.A (pyNext (.ref it)) (fun r s1=>∃ u,r=some u ∧
   wpAny (model P w) X.A (letOwnedTupleGo tg (.ref it) u) (fun _ s2=>∃ x H',Inv X pins σ H' s2∧RelV x u∧J.yld i H x H'∧tn (i + 1) s2.heap∧∀ b∈fp,H' b=none) E s1) E s
 done:∀ (X:Cx),X.prog=P→X.w=w→X.K=K→X.calm=true→∀ (i:Nat) (pins:List (Addr × Obj)) (s:Shared) (σ:St) (H:Hp) (E:Value→Shared→Prop),Inv X pins σ H s→(∀ b∈fp,FpOk X pins H b)→tn i s.heap→J.stop i H →
  wpAny (model P w) X.A (pyNext (.ref it)) (fun r s1=>r=none∧Inv X pins σ H s1) E s
 self:∀ (A:Around) (i:Nat) (s:Shared) (Q:Value→Shared→Prop) (E:Value→Shared→Prop),tn i s.heap→Q (.ref it) s→wpAny (model P w) A (pyIter (.ref it)) Q E s
abbrev TI:=St→Hp→(It→Hp→Prop)→Prop
def PIE (X:Cx) (pins:List (Addr × Obj)) (σ:St) (tg:Expr) (R:It→Hp→Prop) (itv:Value) (s2:Shared):Prop :=
 ∃ (it:Addr) (fp:List Addr) (tn:Nat→Heap→Prop) (J:It) (H':Hp),itv=.ref it∧Inv X pins σ H' s2∧Turn X.prog X.w X.K tg J fp it tn∧tn 0 s2.heap∧(∀ b∈fp,FpOk X pins H' b)∧R J H'
def PI (X:Cx) (tg iter:Expr) (wi:TI):Prop :=
 ∀ (pins:List (Addr × Obj)) (s:Shared) (σ:St) (H:Hp) (R:It→Hp→Prop),Inv X pins σ H s→wi σ H R →
  wpAny (model X.prog X.w) X.A (eval iter X.env) (fun v s1=>wpAny (model X.prog X.w) X.A (pyIter v) (PIE X pins σ tg R) X.xe s1) X.xe s
theorem go_of {M:Model} {A:Around} {E:Value→Shared→Prop} {s:Shared} {tg:Expr} {it:Addr} {u:Value} {o:Obj} {n:String} {vs:Array Value} {Q:Unit→Shared→Prop} (ho:s.heap.get? it=some o) (hc:o.cls=.type n) (hd:o.data=.fields vs)
    (hn:["enumerate","zip","dict_itemiterator","dict_reverseitemiterator","odict_iterator","itertools.zip_longest","itertools.pairwise"].contains n=false) (hQ:Q () s):wpAny M A (letOwnedTupleGo tg (.ref it) u) Q E s:=by
  unfold letOwnedTupleGo
  cases tg <;> first
    | exact wpAny_pure hQ
    | (cases u <;> first
        | exact wpAny_pure hQ
        | (refine wpAny_bind (wpAny_load ho ?_)
           rw [hc,hd]
           show wpAny M A (if (["enumerate","zip","dict_itemiterator","dict_reverseitemiterator","odict_iterator","itertools.zip_longest","itertools.pairwise"].contains n && vs[0]? == some (rawInt _))=true then _ else _) Q E s
           rw [if_neg (by intro h; rw [hn,Bool.false_and] at h; cases h)]
           exact wpAny_pure hQ))
def Itl (K:W.Frag) (a:Addr):It :=
 ⟨fun i H=>∃ xs x,SqL K H a xs∧xs[i]?=some x,fun i H x H'=>H'=H∧∀ xs,SqL K H a xs→xs[i]?=some x,fun i H=>∃ xs,SqL K H a xs∧xs.length≤i⟩
def Itr (lo:Int) (n:Nat):It:=⟨fun i _=>i < n,fun i H x H'=>H'=H∧x=.int (lo + i),fun i _=>n≤i⟩
theorem turn_list {P:Program} {w:World} {K:W.Frag} {tg:Expr} (a it:Addr):Turn P w K tg (Itl K a) [it] it (fun i h=>h.IsListIter it a i) where
 mem:=by simp
 obj:=fun i h st b hb=>by
  have e:b=it:=by simpa using hb
  subst e
  obtain ⟨o,e,c,d⟩:=st
  exact ⟨o,e,fun v z=>by rw [d] at z; cases z⟩
 keep:=fun i h h' st k=>st.at fun o e=>k it (by simp) o e
 item:=by
  intro X hP hw hK hc i pins s σ H E I hf st hg
  subst hP hw hK
  obtain ⟨xs,x,hq,hx⟩:=hg
  obtain ⟨its,rv,p,hz⟩:=I.list hq
  obtain ⟨u,hu,ru⟩:=rv.get hx
  obtain ⟨f0,f1,f2,f3,f4,f5⟩:=hf it (by simp)
  refine wpAny_pyNext_list_item st p.isList (x:=u) (by simpa using hu) fun h' st' sb=>?_
  have I1:Inv X pins σ H { s with heap:=h' }:=I.turned (t':=s.toks) (fun b o hb e=>(sb.2 b hb).trans e) f0 f1 f3 f4 f5
  obtain ⟨o,e,c,d⟩:=id st'
  exact ⟨u,rfl,go_of (s:={ s with heap:=h' }) e c d (by decide) ⟨x,H,I1,ru,⟨rfl,fun ys hy=>by rw [I.list_inj hy hq]; exact hx⟩,st',fun b hb=>(hf b hb).1⟩⟩
 done:=by
  intro X hP hw hK hc i pins s σ H E I hf st hg
  subst hP hw hK
  obtain ⟨xs,hq,hx⟩:=hg
  obtain ⟨its,rv,p,hz⟩:=I.list hq
  obtain ⟨f0,f1,f2,f3,f4,f5⟩:=hf it (by simp)
  have hl:=rv.length
  exact wpAny_pyNext_list_end (I.ok.hd hc) st p.isList (by simp; omega) fun h' eb=>⟨rfl,I.turned (t':=s.toks) (fun b o hb e=>eb b o hb e) f0 f1 f3 f4 f5⟩
 self:=fun _ _ _ _ _ st h=>wpAny_pyIter_listiter st h
theorem turn_range {P:Program} {w:World} {K:W.Frag} {tg:Expr} (it:Addr) (lo:Int) (n:Nat):Turn P w K tg (Itr lo n) [it] it (fun i h=>IsRangeIter h it (lo + (i:Nat) * 1) ((n:Int) - (i:Nat)) 1) where
 mem:=by simp
 obj:=fun i h st b hb=>by
  have e:b=it:=by simpa using hb
  subst e
  exact ⟨_,st,fun v z=>by
   have z':Data.fields _=Data.cell v:=z
   cases z'⟩
 keep:=fun i h h' st k=>k it (by simp) _ st
 item:=by
  intro X hP hw hK hc i pins s σ H E I hf st hg
  subst hP hw hK
  obtain ⟨f0,f1,f2,f3,f4,f5⟩:=hf it (by simp)
  have W:=Walks.range (prog:=X.prog) (w:=X.w) (I.ok.hd hc) it lo 1 n
  refine W.item i s _ _ hg st fun v h' tk hv st' kk=>?_
  obtain ⟨t,rfl⟩:=hv
  have I1:Inv X pins σ H { s with heap:=h',toks:=tk }:=I.turned (fun b o hb e=>kk b o (by simpa using hb) e) f0 f1 f3 f4 f5
  refine ⟨_,rfl,go_of (s:={ s with heap:=h',toks:=tk }) (n:="range_iterator") st' rfl rfl (by decide) ⟨.int (lo + i),H,I1,⟨t,?_⟩,⟨rfl,rfl⟩,st',fun b hb=>(hf b hb).1⟩⟩
  rw [Int.mul_one]
 done:=by
  intro X hP hw hK hc i pins s σ H E I hf st hg
  subst hP hw hK
  obtain ⟨f0,f1,f2,f3,f4,f5⟩:=hf it (by simp)
  exact wpAny_pyNext_range_end (I.ok.hd hc) st (by have:n≤i:=hg; omega) fun h' eb=>⟨rfl,I.turned (t':=s.toks) (fun b o hb e=>eb b o hb e) f0 f1 f3 f4 f5⟩
 self:=fun _ _ _ _ _ st h=>wpAny_pyIter_rangeiter st h
end L2
namespace L2
open PySem PySem.Spec PyProof.Rows
section
variable {X : Cx} {tg : Expr}
def iList (K:W.Frag) (tl:TE):TI:=fun σ H R=>tl σ H fun x H1=>∃ a,x=.ref a∧(∃ xs,SqL K H1 a xs)∧R (Itl K a) H1
theorem pi_list {l:Expr} {tl:TE} (hl:PE X l tl):PI X tg l (iList X.K tl):=by
 intro pins s σ H R I h
 refine thn (hl pins s σ H _ I h) fun v s1 ⟨x,H1,I1,r1,q1⟩=>?_
 obtain ⟨a,e,⟨xs,hq⟩,q⟩:=q1
 subst e
 cases r1
 obtain ⟨its,rv,p,hz⟩:=I1.list hq
 refine wpAny_pyIter_list p.isList ?_
 refine ⟨s1.heap.objs.size,[s1.heap.objs.size],_,_,H1,rfl,I1.kept (t':=s1.toks) fun b o e=>Heap.get?_push_of_some _ e,turn_list a _,⟨_,Heap.get?_push_size _ rfl,rfl,rfl⟩,fun b hb=>?_,q⟩
 have e:b=s1.heap.objs.size:=by simpa using hb
 subst e
 exact I1.fpOk (Nat.le_refl _) (I1.hok.fresh (Nat.le_refl _))
theorem range_it {pins:List (Addr × Obj)} {σ:St} {H:Hp} {s:Shared} {R:It→Hp→Prop} {E:Value→Shared→Prop} {lo hi:Int} {t u v:Tok} {tk:Nat} (I:Inv X pins σ H s) (h1:-(2 ^ 62)≤lo) (h2:lo < 2 ^ 62) (h3:-(2 ^ 62)≤hi) (h4:hi < 2 ^ 62)
  (q:R (Itr lo (hi - lo).toNat) H):wpAny (model X.prog X.w) X.A (pyIter (.ref s.heap.objs.size)) (PIE X pins σ tg R) E { s with heap:=s.heap.push { cls:=.type "range",data:=.fields #[.int lo t,.int hi u,.int 1 v] },toks:=tk }:=by
 refine wpAny_pyIter_range (IsRange.new ..) (small_one h1 h2 h3 h4) ?_
 have I1:Inv X pins σ H { s with heap:=s.heap.push { cls:=.type "range",data:=.fields #[.int lo t,.int hi u,.int 1 v] },toks:=tk }:=I.kept fun b o e=>Heap.get?_push_of_some _ e
 refine ⟨(s.heap.push { cls:=.type "range",data:=.fields #[.int lo t,.int hi u,.int 1 v] }).objs.size,[(s.heap.push { cls:=.type "range",data:=.fields #[.int lo t,.int hi u,.int 1 v] }).objs.size],_,_,H,rfl,
  I1.kept (t':=tk) fun b o e=>Heap.get?_push_of_some _ e,turn_range _ lo (hi - lo).toNat,?_,fun b hb=>?_,q⟩
 ·have e1:lo + ((0:Nat):Int) * 1=lo:=by simp
  have e2:(((hi - lo).toNat:Nat):Int) - ((0:Nat):Int)=Builtin.Range.rangeSize lo hi 1:=by rw [rangeSize_one]; split <;> omega
  show IsRangeIter _ _ (lo + ((0:Nat):Int) * 1) ((((hi - lo).toNat:Nat):Int) - ((0:Nat):Int)) 1
  rw [e1,e2]
  exact Heap.get?_push_size _ rfl
 ·have e:b=(s.heap.push { cls:=.type "range",data:=.fields #[.int lo t,.int hi u,.int 1 v] }).objs.size:=by simpa using hb
  subst e
  exact I1.fpOk (Nat.le_refl _) (I1.hok.fresh (Nat.le_refl _))
def iRng1 (ta:TA):TI:=fun σ H R=>ta σ H fun vs H1=>∃ j:Int,vs=[.int j]∧-(2 ^ 62)≤j∧j < 2 ^ 62∧R (Itr 0 j.toNat) H1
theorem pi_range1 {a:Expr} {ta:TA} {p pos:Pos} (hg:Gl X "range") (hm:X.mg "range"=none) (ha:PA X [a] ta) (hs:starEach [a] X.env=[(false,eval a X.env)]:=by rfl):PI X tg (.Call (.Name "range" p) [a] [] pos) (iRng1 ta):=by
 intro pins s σ H R I h
 refine Call_ (ld_blt I hg hm boot_range (PyProof.Rows.callWith_type1 (thn (ha pos pins s σ H _ I h) fun us s1 ⟨vs,H1,I1,r1,q1⟩=>?_) hs rfl))
 obtain ⟨j,e,q1,q2,q⟩:=q1
 subst e
 cases r1 with
 | cons r rr =>
  cases rr
  obtain ⟨t,rfl⟩:=r
  exact call_range_1 (range_it I1 (by omega) (by omega) q1 q2 (by simpa using q))
def tFor (wi:TI) (g:TG) (tb:TS):TS:=fun D σ H=>wi σ H fun J H1=>∃ W:Nat→Nat→St→Hp→Prop,(∃ m,W 0 m σ H1)∧∀ i m σ H,W i m σ H →
 (J.stop i H∧D.nx σ H)∨(J.go i H∧∃ N:St→Hp→Prop,(∀ σ' H',N σ' H'→∃ m',m' < m∧W (i + 1) m' σ' H')∧∀ x H',J.yld i H x H'→g x σ H' fun σ2 H2=>tb { D with nx:=N,ct:=N,bk:=D.nx } σ2 H2)
def pinsAt (fp:List Addr) (h:Heap):List (Addr × Obj):=fp.filterMap fun b=>(h.get? b).map fun o=>(b,o)
theorem mem_pinsAt {fp:List Addr} {h:Heap} {b:Addr} {o:Obj} (hb:b∈fp) (e:h.get? b=some o):(b,o)∈pinsAt fp h:=List.mem_filterMap.mpr ⟨b,hb,by rw [e]; rfl⟩
theorem of_pinsAt {fp:List Addr} {h:Heap} {p:Addr × Obj} (hp:p∈pinsAt fp h):p.1∈fp∧h.get? p.1=some p.2:=by
 obtain ⟨b,hb,e⟩:=List.mem_filterMap.mp hp
 cases q:h.get? b with
 | none=>rw [q] at e; cases e
 | some o =>
  rw [q] at e
  have e':(b,o)=p:=Option.some.inj e
  subst e'
  exact ⟨hb,q⟩
theorem Inv.pinned {pins:List (Addr × Obj)} {σ:St} {H:Hp} {s:Shared} {fp:List Addr} (I:Inv X pins σ H s) (hf:∀ b∈fp,FpOk X pins H b) (ho:∀ b∈fp,∃ o,s.heap.get? b=some o∧∀ v,o.data≠.cell v):Inv X (pins ++ pinsAt fp s.heap) σ H s :=
 I.pins_of fun p hp=>(List.mem_append.mp hp).elim (fun z=>I.pin p (List.mem_append_right _ z)) fun z=>by
  obtain ⟨hb,e⟩:=of_pinsAt z
  obtain ⟨f0,f1,f2,_⟩:=hf p.1 hb
  obtain ⟨o,e',d⟩:=ho p.1 hb
  rw [e] at e'; cases e'
  exact ⟨e,f0,f1,f2,d⟩
theorem Inv.unpinned {pins pl:List (Addr × Obj)} {σ:St} {H:Hp} {s:Shared} (I:Inv X (pins ++ pl) σ H s):Inv X pins σ H s:=I.pins_of fun p hp=>I.pin p (List.mem_append_right _ (List.mem_append_left _ hp))
theorem ps_for {iter:Expr} {body:List Stmt} {wi:TI} {g:TG} {tb:TS} {pos:Pos} (hp:PassesOwn (model X.prog X.w) X.A X.env X.xe) (hc:X.calm=true) (hi:PI X tg iter wi) (hg:PG X tg g) (hb:PSs X body tb)
  (hs:∀ x,foldedSetIterable iter X.env x=pure x:=by intro _; rfl):PS X (.For tg iter body [] pos) (tFor wi g tb):=by
 intro pins s σ H D I h
 refine wpAny_For (thn (hi pins s σ H _ I h) fun v s1 h1=>thn h1 fun itv s2 h2=>?_) hs
 obtain ⟨it,fp,tn,J,H2,e,I2,T,st2,f2,W,⟨m0,w0⟩,turn⟩:=h2
 subst e
 have stat:∀ {H':Hp},(∀ b∈fp,H' b=none)→∀ b∈fp,FpOk X pins H' b:=fun hn b hb=>⟨hn b hb,(f2 b hb).2⟩
 refine codeAny_forLoop_any (fun n s'=>∃ i σ' H',Inv X pins σ' H' s'∧tn i s'.heap∧(∀ b∈fp,H' b=none)∧W i n σ' H') ?_ m0 ⟨0,σ,H2,I2,st2,fun b hb=>(f2 b hb).1,w0⟩
 rintro n s3 ⟨i,σ3,H3,I3,st3,fr3,w3⟩
 rcases turn i n σ3 H3 w3 with ⟨stop,qn⟩ | ⟨go,N,hN,step⟩
 ·refine wpAny_passesOwn hp (thn (T.done X rfl rfl rfl hc i pins s3 σ3 H3 X.xe I3 (stat fr3) st3 stop) fun r s4 ⟨hr,I4⟩=>?_)
  subst hr
  exact wpAny_execs_nil ⟨σ3,H3,I4,qn⟩
 ·refine wpAny_passesOwn hp (thn (T.item X rfl rfl rfl hc i pins s3 σ3 H3 X.xe I3 (stat fr3) st3 go) fun r s4 ⟨u,hr,h4⟩=>?_)
  subst hr
  refine wpAny_passesOwn hp (thn h4 fun _ s5 ⟨x,H5,I5,r5,y5,st5,fr5⟩=>?_)
  have I5':=I5.pinned (stat fr5) (T.obj _ _ st5)
  refine wpAny_passesOwn hp (thn (hg _ s5 σ3 H5 x u _ I5' r5 (step x H5 y5)) fun _ s6 ⟨σ6,H6,I6,q6⟩=>?_)
  refine wpAny_passesOwn hp (thn (hb _ s6 σ6 H6 _ I6 q6) fun f s7 q7=>?_)
  have again:∀ {σ7:St} {H7:Hp},Inv X (pins ++ pinsAt fp s5.heap) σ7 H7 s7→N σ7 H7→∃ m,m < n∧∃ i σ' H',Inv X pins σ' H' s7∧tn i s7.heap∧(∀ b∈fp,H' b=none)∧W i m σ' H':=fun {σ7 H7} I7 n7=>by
   obtain ⟨m',hm,w7⟩:=hN σ7 H7 n7
   refine ⟨m',hm,i + 1,σ7,H7,I7.unpinned,T.keep _ _ _ st5 fun b hb o e=>(I7.pin (b,o) (List.mem_append_right _ (List.mem_append_right _ (mem_pinsAt hb e)))).1,fun b hb=>?_,w7⟩
   obtain ⟨o,e,d⟩:=T.obj _ _ st5 b hb
   exact (I7.pin (b,o) (List.mem_append_right _ (List.mem_append_right _ (mem_pinsAt hb e)))).2.1
  cases f with
  | next=>obtain ⟨σ7,H7,I7,n7⟩:=q7; exact again I7 n7
  | cont=>obtain ⟨σ7,H7,I7,n7⟩:=q7; exact again I7 n7
  | brk=>obtain ⟨σ7,H7,I7,q7⟩:=q7; exact ⟨σ7,H7,I7.unpinned,q7⟩
  | ret v=>obtain ⟨x7,σ7,H7,I7,r7,q7⟩:=q7; exact ⟨x7,σ7,H7,I7.unpinned,r7,q7⟩
end
theorem for_list {K:W.Frag} {a:Addr} {xs:List V} {g:TG} {tb:TS} {D:Ends} {σ:St} {H:Hp} (Pv:Nat→St→Hp→Prop) (h0:Pv 0 σ H) (hl:∀ i σ H,i≤xs.length→Pv i σ H→SqL K H a xs)
  (hs:∀ i x σ H,xs[i]?=some x→Pv i σ H→g x σ H fun σ2 H2=>tb { D with nx:=Pv (i + 1),ct:=Pv (i + 1),bk:=D.nx } σ2 H2) (hd:∀ σ H,Pv xs.length σ H→D.nx σ H) :
  ∃ W:Nat→Nat→St→Hp→Prop,(∃ m,W 0 m σ H)∧∀ i m σ H,W i m σ H →
   ((Itl K a).stop i H∧D.nx σ H)∨((Itl K a).go i H∧∃ N:St→Hp→Prop,(∀ σ' H',N σ' H'→∃ m',m' < m∧W (i + 1) m' σ' H')∧∀ x H',(Itl K a).yld i H x H'→g x σ H' fun σ2 H2=>tb { D with nx:=N,ct:=N,bk:=D.nx } σ2 H2):=by
 refine ⟨fun i m σ H=>m=xs.length - i∧i≤xs.length∧Pv i σ H,⟨xs.length,by simp,Nat.zero_le _,h0⟩,?_⟩
 rintro i m σ H ⟨rfl,hi,p⟩
 have q:=hl i σ H hi p
 by_cases hlt:i < xs.length
 ·refine .inr ⟨⟨xs,xs[i],q,by simp [hlt]⟩,Pv (i + 1),fun σ' H' p'=>⟨xs.length - (i + 1),by omega,rfl,hlt,p'⟩,fun x H' y=>?_⟩
  obtain ⟨e,y⟩:=y
  subst e
  exact hs i x σ _ (y xs q) p
 ·have e:i=xs.length:=by omega
  subst e
  exact .inl ⟨⟨xs,q,Nat.le_refl _⟩,hd σ H p⟩
theorem for_range {lo:Int} {n:Nat} {g:TG} {tb:TS} {D:Ends} {σ:St} {H:Hp} (Pv:Nat→St→Hp→Prop) (h0:Pv 0 σ H)
  (hs:∀ i σ H,i < n→Pv i σ H→g (.int (lo + i)) σ H fun σ2 H2=>tb { D with nx:=Pv (i + 1),ct:=Pv (i + 1),bk:=D.nx } σ2 H2) (hd:∀ σ H,Pv n σ H→D.nx σ H) :
  ∃ W:Nat→Nat→St→Hp→Prop,(∃ m,W 0 m σ H)∧∀ i m σ H,W i m σ H →
   ((Itr lo n).stop i H∧D.nx σ H)∨((Itr lo n).go i H∧∃ N:St→Hp→Prop,(∀ σ' H',N σ' H'→∃ m',m' < m∧W (i + 1) m' σ' H')∧∀ x H',(Itr lo n).yld i H x H'→g x σ H' fun σ2 H2=>tb { D with nx:=N,ct:=N,bk:=D.nx } σ2 H2):=by
 refine ⟨fun i m σ H=>m=n - i∧i≤n∧Pv i σ H,⟨n,by simp,Nat.zero_le _,h0⟩,?_⟩
 rintro i m σ H ⟨rfl,hi,p⟩
 by_cases hlt:i < n
 ·refine .inr ⟨hlt,Pv (i + 1),fun σ' H' p'=>⟨n - (i + 1),by omega,rfl,hlt,p'⟩,fun x H' y=>?_⟩
  obtain ⟨e,y⟩:=y
  subst e y
  exact hs i σ _ hlt p
 ·have e:i=n:=by omega
  subst e
  exact .inl ⟨Nat.le_refl _,hd σ H p⟩
end L2
namespace L2
open PySem PySem.Spec PyProof.Rows
abbrev R2:=V→V→Hp→VK→Prop
def OpR (X:Cx) (f:Value→Value→Sem Value) (r:R2):Prop :=
 ∀ (pins:List (Addr × Obj)) (s:Shared) (σ:St) (H:Hp) (x y:V) (v u:Value) (Q:VK),Inv X pins σ H s→RelV x v→RelV y u→r x y H Q →
  wpAny (model X.prog X.w) X.A (f v u) (EP X pins σ Q) X.xe s
def UnR (X:Cx) (f:Value→Sem Value) (r:V→Hp→VK→Prop):Prop :=
 ∀ (pins:List (Addr × Obj)) (s:Shared) (σ:St) (H:Hp) (x:V) (v:Value) (Q:VK),Inv X pins σ H s→RelV x v→r x H Q →
  wpAny (model X.prog X.w) X.A (f v) (EP X pins σ Q) X.xe s
def CallR (X:Cx) (f:Value) (r:List V→Hp→VK→Prop):Prop :=
 ∀ (pins:List (Addr × Obj)) (s:Shared) (σ:St) (H:Hp) (xs:List V) (us:List Value) (Q:VK),Inv X pins σ H s→Vals xs us→r xs H Q →
  wpAny (model X.prog X.w) X.A (call f us) (EP X pins σ Q) X.xe s
def TruR (X:Cx) (r:V→Hp→(Bool→Hp→Prop)→Prop):Prop :=
 ∀ (pins:List (Addr × Obj)) (s:Shared) (σ:St) (H:Hp) (x:V) (v:Value) (Q:Bool→Hp→Prop),Inv X pins σ H s→RelV x v→r x H Q →
  wpAny (model X.prog X.w) X.A (truthy v) (TP X pins σ Q) X.xe s
def tOp (r:R2) (ta tb:TE):TE:=fun σ H Q=>ta σ H fun x H1=>tb σ H1 fun y H2=>r x y H2 Q
def tUn (r:V→Hp→VK→Prop) (ta:TE):TE:=fun σ H Q=>ta σ H fun x H1=>r x H1 Q
def rI (C:Int→Int→Prop) (g:Int→Int→V):R2:=fun x y H Q=>∃ i j,x=.int i∧y=.int j∧C i j∧Q (g i j) H
def rI0 (g:Int→Int→V):R2:=fun x y H Q=>∃ i j,x=.int i∧y=.int j∧Q (g i j) H
def rU (g:Int→V):V→Hp→VK→Prop:=fun x H Q=>∃ i,x=.int i∧Q (g i) H
section
variable {X : Cx} {a b c : Expr} {ta tb tc : TE} {pos : Pos}
theorem binT (ha:PE X a ta) (hb:PE X b tb) {pins:List (Addr × Obj)} {s:Shared} {σ:St} {H:Hp} {R:V→V→Hp→Prop} (I:Inv X pins σ H s)
  (h:ta σ H fun x H1=>tb σ H1 fun y H2=>R x y H2) {Q:Value→Shared→Prop} {f:Value→Value→Sem Value}
  (hf:∀ v u s2 x y H2,Inv X pins σ H2 s2→RelV x v→RelV y u→R x y H2→wpAny (model X.prog X.w) X.A (f v u) Q X.xe s2) :
  wpAny (model X.prog X.w) X.A (eval a X.env) (fun v s₁=>wpAny (model X.prog X.w) X.A (eval b X.env) (fun u s₂=>wpAny (model X.prog X.w) X.A (f v u) Q X.xe s₂) X.xe s₁) X.xe s:=by
 refine thn (ha pins s σ H _ I h) fun v s1 ⟨x,H1,I1,r1,q1⟩=>?_
 refine thn (hb pins s1 σ H1 _ I1 q1) fun u s2 ⟨y,H2,I2,r2,q2⟩=>?_
 exact hf v u s2 x y H2 I2 r1 r2 q2
theorem pe_op {op:Operator} {r:R2} (ho:OpR X (binaryOp op) r) (ha:PE X a ta) (hb:PE X b tb):PE X (.BinOp a op b pos) (tOp r ta tb):=by
 intro pins s σ H Q I h
 exact wpAny_BinOp (binT ha hb I h fun v u s2 x y H2 I2 rx ry q=>ho pins s2 σ H2 x y v u Q I2 rx ry q)
theorem pe_un {op:UnaryOp} {r:V→Hp→VK→Prop} (ho:UnR X (unaryOp op) r) (ha:PE X a ta):PE X (.UnaryOp op a pos) (tUn r ta):=by
 intro pins s σ H Q I h
 exact UnaryOp_ (thn (ha pins s σ H _ I h) fun v s1 ⟨x,H1,I1,r1,q1⟩=>ho pins s1 σ H1 x v Q I1 r1 q1)
theorem opI {f:Value→Value→Sem Value} {C:Int→Int→Prop} {g:Int→Int→Int}
  (rule:∀ (i j:Int) (t u:Tok) (s:Shared) (Q:Value→Shared→Prop) (E:Value→Shared→Prop),C i j→Q (.int (g i j) s.toks) { s with toks:=s.toks + 1 }→wpAny (model X.prog X.w) X.A (f (.int i t) (.int j u)) Q E s) :
  OpR X f (rI C fun i j=>.int (g i j)):=by
 intro pins s σ H x y v u Q I rx ry h
 obtain ⟨i,j,rfl,rfl,hc,q⟩:=h
 obtain ⟨t,rfl⟩:=rx
 obtain ⟨t',rfl⟩:=ry
 exact rule i j t t' s _ _ hc ⟨.int (g i j),H,I.tok _,⟨_,rfl⟩,q⟩
theorem opI0 {f:Value→Value→Sem Value} {g:Int→Int→Int}
  (rule:∀ (i j:Int) (t u:Tok) (s:Shared) (Q:Value→Shared→Prop) (E:Value→Shared→Prop),Q (.int (g i j) s.toks) { s with toks:=s.toks + 1 }→wpAny (model X.prog X.w) X.A (f (.int i t) (.int j u)) Q E s) :
  OpR X f (rI0 fun i j=>.int (g i j)):=by
 intro pins s σ H x y v u Q I rx ry h
 obtain ⟨i,j,rfl,rfl,q⟩:=h
 obtain ⟨t,rfl⟩:=rx
 obtain ⟨t',rfl⟩:=ry
 exact rule i j t t' s _ _ ⟨.int (g i j),H,I.tok _,⟨_,rfl⟩,q⟩
theorem opB0 {f:Value→Value→Sem Value} {g:Int→Int→Bool}
  (rule:∀ (i j:Int) (t u:Tok) (s:Shared) (Q:Value→Shared→Prop) (E:Value→Shared→Prop),Q (.bool (g i j)) s→wpAny (model X.prog X.w) X.A (f (.int i t) (.int j u)) Q E s) :
  OpR X f (rI0 fun i j=>.bl (g i j)):=by
 intro pins s σ H x y v u Q I rx ry h
 obtain ⟨i,j,rfl,rfl,q⟩:=h
 obtain ⟨t,rfl⟩:=rx
 obtain ⟨t',rfl⟩:=ry
 exact rule i j t t' s _ _ ⟨.bl (g i j),H,I,rfl,q⟩
def CPow (i j:Int):Prop:=0≤j∧j≤1000000∧i.natAbs < 2 ^ 64
theorem two_pow_nn (k:Nat):(0:Int)≤2 ^ k:=by
 rw [two_pow_cast]
 exact Int.natCast_nonneg _
theorem op_add:OpR X (binaryOp .Add) (rI0 fun i j=>.int (i + j)):=opI0 fun _ _ _ _ _ _ _ q=>add_int q
theorem op_sub:OpR X (binaryOp .Sub) (rI0 fun i j=>.int (i - j)):=opI0 fun _ _ _ _ _ _ _ q=>sub_int q
theorem op_mod:OpR X (binaryOp .Mod) (rI (fun _ j=>0 < j) fun i j=>.int (i % j)):=opI fun i j _ _ _ _ _ hc q=>by
 have h1:(0:Int) < j:=hc
 exact mod_int' (by omega) (by rw [Int.fmod_eq_emod_of_nonneg i (by omega)]; exact q)
theorem op_pow:OpR X (binaryOp .Pow) (rI CPow fun i j=>.int (i ^ j.toNat)):=opI fun _ _ _ _ _ _ _ hc q=>pow_int_small hc.1 hc.2.1 hc.2.2 q
theorem op_shl:OpR X (binaryOp .LShift) (rI CPow fun i j=>.int (i * 2 ^ j.toNat)):=opI fun _ _ _ _ _ _ _ hc q=>lshift_int_small hc.1 hc.2.1 hc.2.2 q
theorem op_shr:OpR X (binaryOp .RShift) (rI (fun _ j=>0≤j) fun i j=>.int (i / 2 ^ j.toNat)):=opI fun i j _ _ _ _ _ hc q =>
 rshift_int hc (by rw [Int.fdiv_eq_ediv_of_nonneg i (two_pow_nn _)]; exact q)
theorem op_and:OpR X (binaryOp .BitAnd) (rI0 fun i j=>.int (Builtin.bitAnd i j)):=opI0 fun _ _ _ _ _ _ _ q=>and_int q
theorem op_or:OpR X (binaryOp .BitOr) (rI0 fun i j=>.int (Builtin.bitOr i j)):=opI0 fun _ _ _ _ _ _ _ q=>or_int q
theorem unI {f:Value→Sem Value} {g:Int→Int}
  (rule:∀ (i:Int) (t:Tok) (s:Shared) (Q:Value→Shared→Prop) (E:Value→Shared→Prop),Q (.int (g i) s.toks) { s with toks:=s.toks + 1 }→wpAny (model X.prog X.w) X.A (f (.int i t)) Q E s) :
  UnR X f (rU fun i=>.int (g i)):=by
 intro pins s σ H x v Q I rx h
 obtain ⟨i,rfl,q⟩:=h
 obtain ⟨t,rfl⟩:=rx
 exact rule i t s _ _ ⟨.int (g i),H,I.tok _,⟨_,rfl⟩,q⟩
theorem un_neg:UnR X (unaryOp .USub) (rU fun i=>.int (-i)):=unI fun _ _ _ _ _ q=>neg_int q
end
def scal:V→V→Bool
 | .non,.non=>true | .non,.int _=>true | .int _,.non=>true | .non,.bl _=>true | .bl _,.non=>true | .non,.str _=>true | .str _,.non=>true
 | .int _,.int _=>true | .bl _,.bl _=>true | .str _,.str _=>true | .byt _,.byt _=>true
 | .int _,.str _=>true | .str _,.int _=>true | .bl _,.str _=>true | .str _,.bl _=>true
 | _,_=>false
def rEq:R2:=fun x y H Q=>scal x y=true∧Q (.bl (decide (x=y))) H
def rNe:R2:=fun x y H Q=>scal x y=true∧Q (.bl (!decide (x=y))) H
theorem dec_int {i j:Int}:decide (V.int i=V.int j)=(i == j):=by
 rw [Bool.eq_iff_iff]
 simp
theorem dec_bl {i j:Bool}:decide (V.bl i=V.bl j)=(i == j):=by
 rw [Bool.eq_iff_iff]
 simp
theorem dec_str {i j:Str}:decide (V.str i=V.str j)=(i == j):=by
 rw [Bool.eq_iff_iff]
 simp
theorem dec_byt {i j:Array UInt8}:decide (V.byt i=V.byt j)=(i.toList == j.toList):=by
 rw [Bool.eq_iff_iff]
 cases i
 cases j
 simp
section
variable {X : Cx} {a b c : Expr} {ta tb tc : TE} {pos : Pos}
theorem fin_bl {pins:List (Addr × Obj)} {σ:St} {H:Hp} {s:Shared} {Q:VK} {k k':Bool} (I:Inv X pins σ H s) (q:Q (.bl k) H) (e:k=k'):EP X pins σ Q (.bool k') s:=by
 subst e
 exact ⟨.bl k,H,I,rfl,q⟩
theorem op_eq:OpR X (compareOp .Eq) rEq:=by
 intro pins s σ H x y v u Q I rx ry h
 obtain ⟨hs,q⟩:=h
 cases x with
 | non =>
  cases rx
  cases y with
  | non=>cases ry; exact PySem.EqNone.eq_none_none (fin_bl I q (by simp))
  | bl j=>cases ry; exact PySem.EqNone.eq_none_bool (fin_bl I q (by simp))
  | int j=>obtain ⟨t',rfl⟩:=ry; exact PySem.EqNone.eq_none_int (fin_bl I q (by simp))
  | str j=>obtain ⟨t',rfl⟩:=ry; exact PySem.EqNone.eq_none_str (fin_bl I q (by simp))
  | _=>exact absurd (show false=true from hs) Bool.false_ne_true
 | bl i =>
  cases rx
  cases y with
  | non=>cases ry; exact PySem.EqNone.eq_bool_none (fin_bl I q (by simp))
  | bl j=>cases ry; exact eq_bool (fin_bl I q dec_bl)
  | str j=>obtain ⟨t',rfl⟩:=ry; exact PySem.EqMixed.eq_bool_str (fin_bl I q (by simp))
  | _=>exact absurd (show false=true from hs) Bool.false_ne_true
 | int i =>
  obtain ⟨t,rfl⟩:=rx
  cases y with
  | non=>cases ry; exact PySem.EqNone.eq_int_none (fin_bl I q (by simp))
  | int j=>obtain ⟨t',rfl⟩:=ry; exact eq_int (fin_bl I q dec_int)
  | str j=>obtain ⟨t',rfl⟩:=ry; exact PySem.EqMixed.eq_int_str (fin_bl I q (by simp))
  | _=>exact absurd (show false=true from hs) Bool.false_ne_true
 | str i =>
  obtain ⟨t,rfl⟩:=rx
  cases y with
  | non=>cases ry; exact PySem.EqNone.eq_str_none (fin_bl I q (by simp))
  | bl j=>cases ry; exact PySem.EqMixed.eq_str_bool (fin_bl I q (by simp))
  | int j=>obtain ⟨t',rfl⟩:=ry; exact PySem.EqMixed.eq_str_int (fin_bl I q (by simp))
  | str j=>obtain ⟨t',rfl⟩:=ry; exact eq_str (fin_bl I q dec_str)
  | _=>exact absurd (show false=true from hs) Bool.false_ne_true
 | byt i =>
  obtain ⟨t,rfl⟩:=rx
  cases y with
  | byt j=>obtain ⟨t',rfl⟩:=ry; exact PySem.W.eq_bytes (fin_bl I q dec_byt)
  | _=>exact absurd (show false=true from hs) Bool.false_ne_true
 | _=>cases y <;> exact absurd (show false=true from hs) Bool.false_ne_true
theorem op_ne:OpR X (compareOp .NotEq) rNe:=by
 intro pins s σ H x y v u Q I rx ry h
 obtain ⟨hs,q⟩:=h
 cases x with
 | non =>
  cases rx
  cases y with
  | non=>cases ry; exact PySem.EqNone.ne_none_none (fin_bl I q (by simp))
  | bl j=>cases ry; exact PySem.EqNone.ne_none_bool (fin_bl I q (by simp))
  | int j=>obtain ⟨t',rfl⟩:=ry; exact PySem.EqNone.ne_none_int (fin_bl I q (by simp))
  | str j=>obtain ⟨t',rfl⟩:=ry; exact PySem.EqNone.ne_none_str (fin_bl I q (by simp))
  | _=>exact absurd (show false=true from hs) Bool.false_ne_true
 | bl i =>
  cases rx
  cases y with
  | non=>cases ry; exact PySem.EqNone.ne_bool_none (fin_bl I q (by simp))
  | bl j=>cases ry; exact ne_bool (fin_bl I q (congrArg not dec_bl))
  | str j=>obtain ⟨t',rfl⟩:=ry; exact PySem.EqMixed.ne_bool_str (fin_bl I q (by simp))
  | _=>exact absurd (show false=true from hs) Bool.false_ne_true
 | int i =>
  obtain ⟨t,rfl⟩:=rx
  cases y with
  | non=>cases ry; exact PySem.EqNone.ne_int_none (fin_bl I q (by simp))
  | int j=>obtain ⟨t',rfl⟩:=ry; exact ne_int (fin_bl I q (congrArg not dec_int))
  | str j=>obtain ⟨t',rfl⟩:=ry; exact PySem.EqMixed.ne_int_str (fin_bl I q (by simp))
  | _=>exact absurd (show false=true from hs) Bool.false_ne_true
 | str i =>
  obtain ⟨t,rfl⟩:=rx
  cases y with
  | non=>cases ry; exact PySem.EqNone.ne_str_none (fin_bl I q (by simp))
  | bl j=>cases ry; exact PySem.EqMixed.ne_str_bool (fin_bl I q (by simp))
  | int j=>obtain ⟨t',rfl⟩:=ry; exact PySem.EqMixed.ne_str_int (fin_bl I q (by simp))
  | str j=>obtain ⟨t',rfl⟩:=ry; exact ne_str (fin_bl I q (congrArg not dec_str))
  | _=>exact absurd (show false=true from hs) Bool.false_ne_true
 | byt i =>
  obtain ⟨t,rfl⟩:=rx
  cases y with
  | byt j=>obtain ⟨t',rfl⟩:=ry; exact PySem.W.ne_bytes (fin_bl I q (congrArg not dec_byt))
  | _=>exact absurd (show false=true from hs) Bool.false_ne_true
 | _=>cases y <;> exact absurd (show false=true from hs) Bool.false_ne_true
theorem op_lt:OpR X (compareOp .Lt) (rI0 fun i j=>.bl (decide (i < j))):=opB0 fun _ _ _ _ _ _ _ q=>lt_int q
theorem op_le:OpR X (compareOp .LtE) (rI0 fun i j=>.bl (decide (i≤j))):=opB0 fun _ _ _ _ _ _ _ q=>le_int q
theorem op_gt:OpR X (compareOp .Gt) (rI0 fun i j=>.bl (decide (j < i))):=opB0 fun _ _ _ _ _ _ _ q=>gt_int q
theorem op_ge:OpR X (compareOp .GtE) (rI0 fun i j=>.bl (decide (j≤i))):=opB0 fun _ _ _ _ _ _ _ q=>ge_int q
theorem OpR.or {f:Value→Value→Sem Value} {r r':R2} (h:OpR X f r) (h':OpR X f r'):OpR X f (fun x y H Q=>r x y H Q∨r' x y H Q):=by
 intro pins s σ H x y v u Q I rx ry q
 rcases q with q | q
 ·exact h pins s σ H x y v u Q I rx ry q
 ·exact h' pins s σ H x y v u Q I rx ry q
theorem nomark (b:Expr) {op:CmpOp} (h:op≠.In:=by decide) (h2:op≠.NotIn:=by decide):behindInMarks op b=false:=by
 have e1:(op == CmpOp.In)=false:=by cases op <;> first | rfl | exact absurd rfl h
 have e2:(op == CmpOp.NotIn)=false:=by cases op <;> first | rfl | exact absurd rfl h2
 cases b <;> simp [behindInMarks,e1,e2]
theorem pe_cmpR {op:CmpOp} {r:R2} (ho:OpR X (compareOp op) r) (ha:PE X a ta) (hb:PE X b tb) (hm:behindInMarks op b=false):PE X (.Compare a [op] [b] pos) (tOp r ta tb):=by
 intro pins s σ H Q I h
 exact wpAny_Compare1 (binT ha hb I h fun v u s2 x y H2 I2 rx ry q=>ho pins s2 σ H2 x y v u Q I2 rx ry q) hm
def tTest (t:TE):TT:=fun σ H Q=>t σ H fun x H'=>∃ k,x=.bl k∧Q k H'
theorem pt_cmpR {op:CmpOp} {r:R2} (ho:OpR X (compareOp op) r) (ha:PE X a ta) (hb:PE X b tb) (hm:behindInMarks op b=false):PT X (.Compare a [op] [b] pos) (tTest (tOp r ta tb)):=by
 intro pins s σ H Q I h
 refine wpAny_isTrue_Compare1 (thn (ha pins s σ H _ I h) fun v s1 ⟨x,H1,I1,r1,q1⟩=>thn (hb pins s1 σ H1 _ I1 q1) fun u s2 ⟨y,H2,I2,r2,q2⟩ =>
  thn (ho pins s2 σ H2 x y v u _ I2 r1 r2 q2) fun c s3 ⟨z,H3,I3,r3,k,e,q3⟩=>?_) hm
 subst e
 cases r3
 exact wpAny_truthy_bool ⟨H3,I3,q3⟩
def tChain (r r':R2) (ta tb tc:TE):TE:=fun σ H Q=>ta σ H fun x H1=>tb σ H1 fun y H2=>r x y H2 fun z H3=>∃ k,z=.bl k ∧
 (if k=true then tc σ H3 fun w' H4=>r' y w' H4 Q else Q (.bl false) H3)
theorem pe_chain {op op':CmpOp} {r r':R2} (ho:OpR X (compareOp op) r) (ho':OpR X (compareOp op') r') (ha:PE X a ta) (hb:PE X b tb) (hc:PE X c tc)
  (hm:lastMarks [op,op'] [b,c]=false:=by with_unfolding_all rfl):PE X (.Compare a [op,op'] [b,c] pos) (tChain r r' ta tb tc):=by
 intro pins s σ H Q I h
 refine Compare_chain (thn (ha pins s σ H _ I h) fun v s1 ⟨x,H1,I1,r1,q1⟩=>chain_link (thn (hb pins s1 σ H1 _ I1 q1) fun u s2 ⟨y,H2,I2,r2,q2⟩ =>
  thn (ho pins s2 σ H2 x y v u _ I2 r1 r2 q2) fun d s3 ⟨z,H3,I3,r3,k,e,q3⟩=>?_)) hm
 subst e
 cases r3
 refine wpAny_truthy_bool ?_
 cases k with
 | false=>exact ite_ff ⟨.bl false,H3,I3,rfl,q3⟩
 | true=>exact ite_tt (chain_last (thn (hc pins s3 σ H3 _ I3 q3) fun w' s4 ⟨z',H4,I4,r4,q4⟩=>ho' pins s4 σ H4 y z' u w' Q I4 r2 r4 q4))
theorem pt_chain {op op':CmpOp} {r r':R2} (ho:OpR X (compareOp op) r) (ho':OpR X (compareOp op') r') (ha:PE X a ta) (hb:PE X b tb) (hc:PE X c tc)
  (hm:lastMarks [op,op'] [b,c]=false:=by with_unfolding_all rfl):PT X (.Compare a [op,op'] [b,c] pos) (tTest (tChain r r' ta tb tc)):=by
 intro pins s σ H Q I h
 refine isTrue_chain (thn (ha pins s σ H _ I h) fun v s1 ⟨x,H1,I1,r1,q1⟩=>test_link (thn (hb pins s1 σ H1 _ I1 q1) fun u s2 ⟨y,H2,I2,r2,q2⟩ =>
  thn (ho pins s2 σ H2 x y v u _ I2 r1 r2 q2) fun d s3 ⟨z,H3,I3,r3,k,e,q3⟩=>?_)) hm
 subst e
 cases r3
 refine wpAny_truthy_bool ?_
 cases k with
 | false =>
  obtain ⟨k',e',q'⟩:=q3
  cases e'
  exact ite_ff ⟨H3,I3,q'⟩
 | true =>
  refine ite_tt (test_last (thn (hc pins s3 σ H3 _ I3 q3) fun w' s4 ⟨z',H4,I4,r4,q4⟩=>thn (ho' pins s4 σ H4 y z' u w' _ I4 r2 r4 q4) fun d' s5 ⟨z2,H5,I5,r5,k2,e2,q5⟩=>?_))
  subst e2
  cases r5
  exact wpAny_truthy_bool ⟨H5,I5,q5⟩
def TruV (K:W.Frag) (x:V) (H:Hp) (k:Bool):Prop :=
 match x with
 | .non=>k=false
 | .bl b=>k=b
 | .int i=>k=(i != 0)
 | .str y=>y.length≤sizeLine∧k=((y.length:Int) != 0)
 | .byt y=>y.size≤sizeLine∧k=((y.size:Int) != 0)
 | .ref p=>(∃ xs,SqL K H p xs∧k=!xs.isEmpty)∨(∃ xs,SqT K H p xs∧k=!xs.isEmpty)∨∃ kvs,H p=some (.dK kvs)∧k=!kvs.isEmpty
 | _=>False
theorem isEmpty_kv {κ:Type} {kvs:List (κ × V)} {vs:List (κ × Value)} (r:KV kvs vs):(!vs.isEmpty)=!kvs.isEmpty:=by
 cases r <;> rfl
theorem isEmpty_of {xs:List V} {its:List Value} (r:Vals xs its):(!its.toArray.isEmpty)=!xs.isEmpty:=by
 cases r <;> simp
theorem line63:(sizeLine:Nat) < 2 ^ 63:=by rw [sizeLine_eq]; decide
theorem tru_ok:TruR X (fun x H Q=>∃ k,TruV X.K x H k∧Q k H):=by
 intro pins s σ H x v Q I rx h
 obtain ⟨k,e,q⟩:=h
 have hl:=line63
 have hs:sizeLine=16777216:=sizeLine_eq
 cases x with
 | non =>
  cases rx
  have e':k=false:=e
  subst e'
  exact truthy_none ⟨H,I,q⟩
 | bl b =>
  cases rx
  have e':k=b:=e
  subst e'
  exact wpAny_truthy_bool ⟨H,I,q⟩
 | int i =>
  obtain ⟨t,rfl⟩:=rx
  have e':k=(i != 0):=e
  subst e'
  exact PySem.P.truthy_int ⟨H,I,q⟩
 | str y =>
  obtain ⟨t,rfl⟩:=rx
  obtain ⟨hy,e'⟩:y.length≤sizeLine∧k=((y.length:Int) != 0):=e
  subst e'
  exact PySem.P.truthy_str (by omega) ⟨H,I.tok _,q⟩
 | byt y =>
  obtain ⟨t,rfl⟩:=rx
  obtain ⟨hy,e'⟩:y.size≤sizeLine∧k=((y.size:Int) != 0):=e
  subst e'
  exact PySem.W.truthy_bytes (by omega) ⟨H,I.tok _,q⟩
 | ref p =>
  cases rx
  have e':(∃ xs,SqL X.K H p xs∧k=!xs.isEmpty)∨(∃ xs,SqT X.K H p xs∧k=!xs.isEmpty)∨∃ kvs,H p=some (.dK kvs)∧k=!kvs.isEmpty:=e
  rcases e' with ⟨xs,hx,e'⟩ | ⟨xs,hx,e'⟩ | ⟨kvs,hx,e'⟩
  ·subst e'
   obtain ⟨its,r,pl,hz⟩:=I.list hx
   have hlen:=r.length
   exact wpAny_truthy_list pl.isList (by simp only [List.size_toArray]; omega) ⟨H,I.tok _,by rw [isEmpty_of r]; exact q⟩
  ·subst e'
   obtain ⟨its,r,pl,hz⟩:=I.tuple hx
   have hlen:=r.length
   exact truthy_tuple pl (by simp only [List.size_toArray]; omega) ⟨H,I.tok _,by rw [isEmpty_of r]; exact q⟩
  ·subst e'
   obtain ⟨hz,hS,vs,r,m⟩:kvs.length≤sizeLine∧(p == sysModules)=false∧∃ vs,KV kvs vs∧s.heap.DictOf (mixKind X.prog X.w) p vs:=I.hok p _ hx
   have hlen:kvs.length=vs.length:=Paired.length r
   exact wpAny_truthy_dict hS m (by omega) ⟨H,I.tok _,by rw [isEmpty_kv r]; exact q⟩
 | _=>exact (show False from e).elim
theorem pt_truth (ha:PE X a ta) (he:∀ whole,isTrue a X.env whole=(do let v ← whole; standAt a.pos; holding [v] (truthy v))) :
  PT X a (fun σ H Q=>ta σ H fun x H'=>∃ k,TruV X.K x H' k∧Q k H'):=by
 intro pins s σ H Q I h
 exact isTrue_plain (thn (ha pins s σ H _ I h) fun v s1 ⟨x,H1,I1,r1,q1⟩=>tru_ok pins s1 σ H1 x v Q I1 r1 q1) (he _)
theorem vals1 {x:V} {us:List Value} (r:Vals [x] us):∃ u,us=[u]∧RelV x u:=by
 cases r with
 | cons r1 r2=>cases r2; exact ⟨_,rfl,r1⟩
theorem vals2 {x y:V} {us:List Value} (r:Vals [x,y] us):∃ u w',us=[u,w']∧RelV x u∧RelV y w':=by
 cases r with
 | cons r1 r2 =>
  cases r2 with
  | cons r3 r4=>cases r4; exact ⟨_,_,rfl,r1,r3⟩
theorem call_max2 (hc:X.calm=true):CallR X (.builtin "max") (fun xs H Q=>∃ i j,xs=[.int i,.int j]∧Q (.int (if j > i then j else i)) H):=by
 intro pins s σ H xs us Q I r h
 obtain ⟨i,j,rfl,q⟩:=h
 obtain ⟨u,w',rfl,⟨t,rfl⟩,⟨t',rfl⟩⟩:=vals2 r
 refine max_two_ints (I.ok.hd hc) fun h' tk k=>⟨_,H,I.kept k,?_,q⟩
 by_cases hj:j > i
 ·rw [if_pos hj,if_pos hj]; exact ⟨_,rfl⟩
 ·rw [if_neg hj,if_neg hj]; exact ⟨_,rfl⟩
theorem call_min2 (hc:X.calm=true):CallR X (.builtin "min") (fun xs H Q=>∃ i j,xs=[.int i,.int j]∧Q (.int (if j < i then j else i)) H):=by
 intro pins s σ H xs us Q I r h
 obtain ⟨i,j,rfl,q⟩:=h
 obtain ⟨u,w',rfl,⟨t,rfl⟩,⟨t',rfl⟩⟩:=vals2 r
 refine min_two_ints (I.ok.hd hc) fun h' tk k=>⟨_,H,I.kept k,?_,q⟩
 by_cases hj:j < i
 ·rw [if_pos hj,if_pos hj]; exact ⟨_,rfl⟩
 ·rw [if_neg hj,if_neg hj]; exact ⟨_,rfl⟩
end
end L2
namespace L2
open PySem PySem.Spec PyProof.Rows
structure ObjM (h:Heap) (x dx C:Addr) (mA:Str→Option Value):Prop where
 obj:h.get? x=some (W.instObj C dx)
 ns:h.Ns1 dx mA
 ne:dx≠x
theorem lookIn_ns {h:Heap} {dx:Addr} {mA:Str→Option Value} (n:h.Ns1 dx mA):∃ od,h.get? dx=some od∧∀ name,W.lookIn name od=some (mA name):=by
 obtain ⟨o,es,ep,ho,hd,hk,_,hm⟩:=n
 refine ⟨o,ho,fun name=>?_⟩
 have e:=hm name
 unfold nsFind findBy at e
 rw [← Array.find?_toList] at e
 unfold W.lookIn
 rw [hd]
 dsimp only
 split
 ·rename_i y q
  rw [q] at e
  exact congrArg some e
 ·rename_i q
  rw [q] at e
  have a:es.toList.any (·.refKey)=false:=by
   rw [List.any_eq_false]
   intro y hy
   obtain ⟨z,t,hkey⟩:=hk y (Array.mem_toList_iff.mp hy)
   simp [DictEntry.refKey,hkey]
  have a':¬ es.toList.any (·.refKey)=true:=by rw [a]; exact Bool.false_ne_true
  rw [if_neg a']
  exact congrArg some e
theorem ObjM.look {h:Heap} {x dx C:Addr} {mA:Str→Option Value} (I:ObjM h x dx C mA):∃ od,W.InstAt h x (W.instObj C dx) C (some od)∧∀ name,W.lookIn name od=some (mA name) :=
 let ⟨od,ho,hl⟩:=lookIn_ns I.ns
 ⟨od,⟨I.obj,rfl,rfl,ho⟩,hl⟩
section
variable {prog : Program} {w : World} {A : Around} {E : Value → Shared → Prop} {s : Shared} {K : W.Frag} {x dx C f : Addr} {mA : Str → Option Value} {name : Str} {v : Value}
theorem get_map {expr:Bool} {Q:Value→Shared→Prop} (X:K.In s.heap) (I:ObjM s.heap x dx C mA) (hg:W.plainGet K C name=true) (hh:W.hasDictIn K C=true)
  (ha:W.findIn K (.ref C) name=some none) (hv:mA name=some v) (hv':W.handedIn v=true) (h:Q v { s with toks:=s.toks + 1 }) :
  wpAny (model prog w) A (getAttr (.ref x) name expr) Q E s:=by
 obtain ⟨od,J,hl⟩:=I.look
 exact W.get_value X J (W.plainGet_of hg).1 (W.findObj_own hh ha rfl (by rw [hl,hv])) hv' h
theorem get_meth {pl:Sem Bool} {Q:Value × List Value→Shared→Prop} (X:K.In s.heap) (I:ObjM s.heap x dx C mA) (hg:W.plainGet K C name=true)
  (hf:W.findIn K (.ref C) name=some (some (.ref f))) (ht:W.isFn K (.ref f)=true) (hv:mA name=none) (h:Q (.ref f,[.ref x]) s) :
  wpAny (model prog w) A (getMethod (.ref x) name pl) Q E s:=by
 obtain ⟨od,J,hl⟩:=I.look
 exact W.method_fn X J (W.plainGet_of hg).1 (W.plainGet_of hg).2 hf (beq_iff_eq.mp ht) (by show (W.lookIn name od).map (·.isSome)=some false; rw [hl,hv]; rfl) h
theorem set_map {ns:List Str} {Q:Unit→Shared→Prop} (X:K.In s.heap) (I:ObjM s.heap x dx C mA)
  (hs:PySem.W.findIn K (.ref C) "__setattr__"=some (some (.builtin "object.__setattr__"))) (hp:PySem.W.plainOver K C=true) (ht:PySem.W.takerIn K C name=some none) (hh:PySem.W.hasDictIn K C=true)
  (hw:PySem.Within mA ns) (hsz:ns.length≤sizeLine)
  (h:∀ h',ObjM h' x dx C (fun y=>if y=name then some v else mA y)→Heap.SameBut dx s.heap h'→Q () { s with heap:=h',toks:=s.toks + 2 }) :
  wpAny (model prog w) A (setAttr (.ref x) name v) Q E s:=by
 obtain ⟨od,J,hl⟩:=I.look
 refine PySem.W.set_plain X J hs (PySem.W.osa_open (s:={ s with toks:=s.toks + 1 }) (r:=none) X J hp ht fun b=>?_)
 obtain ⟨cd,hc,hd'⟩:=PySem.W.any_some hh
 have hx:s.heap.get? x=some ⟨.ref C,some dx,.plain,#[]⟩:=I.obj
 refine wpAny_bind (wpAny_pure (wpAny_bind (wpAny_bind (wpAny_loadPart hx (wpAny_bind (PySem.W.Looks.here (s:={ s with toks:=s.toks + 1 }) (PySem.W.looks_clsIn X hc) ?_))))))
 rw [hd']
 refine wpAny_pure (a:=some dx) (wpAny_bind (wpAny_pure (wpAny_bind ?_)))
 refine wpAny_nsSet1 (s:={ s with toks:=s.toks + 1 }) I.ns fun h' hn2 hs2=>?_
 obtain ⟨oD,esD,epD,hoD,hdD,hcD⟩:=hn2.count (PySem.Within.cons name v hw)
 refine wpAny_bind (wpAny_lookBehind hoD (by rw [hdD]; exact pastItsLine_dict (Nat.le_trans hcD (by rw [List.length_cons]; omega))) ?_)
 exact wpAny_pure (h _ ⟨(hs2.2 _ (Ne.symm I.ne)).trans I.obj,hn2,I.ne⟩ hs2)
theorem make_map {R:Result→Shared→Prop} {vs:List Value} {kw:List (Str × Value)} (X:K.In s.heap) (hm:W.makesIn K C=true)
  (hi:W.findIn K (.ref C) "__init__"=some (some (.ref f))) (hf:W.typeIn K (.ref f)=some (.type "function"))
  (h:codeAny (model prog w) (A.under (.builtin "type.__call__" ⟨.ref C :: vs,kw⟩)) (.call (.ref f) ⟨.ref (s.heap.objs.size + 1) :: vs,kw⟩) (W.InitBack (s.heap.objs.size + 1) R)
   { s with heap:=(s.heap.push W.emptyDict).push (W.instObj C s.heap.objs.size) }) :
  codeAny (model prog w) A (.call (.ref C) ⟨vs,kw⟩) R s:=by
 obtain ⟨hh,g,d,t,os⟩:=s
 exact W.make_core (W.makes_of X hm) (W.looks_findIn X hi) (fun self=>W.bind_fn X self hf) (.inl rfl) h
theorem make_map0 {R:Result→Shared→Prop} (X:K.In s.heap) (hm:W.makesIn K C=true)
  (hi:W.findIn K (.ref C) "__init__"=some (some (.builtin "object.__init__")))
  (hb:∀ self,W.Looks (model prog w) s.heap (bindSpecial (.builtin "object.__init__") self) (.builtin "object.__init__",[self]))
  (h:codeAny (model prog w) (A.under (.builtin "type.__call__" ⟨[.ref C],[]⟩)) (.call (.builtin "object.__init__") ⟨[.ref (s.heap.objs.size + 1)],[]⟩) (W.InitBack (s.heap.objs.size + 1) R)
   { s with heap:=(s.heap.push W.emptyDict).push (W.instObj C s.heap.objs.size) }) :
  codeAny (model prog w) A (.call (.ref C) ⟨[],[]⟩) R s:=by
 obtain ⟨hh,g,d,t,os⟩:=s
 exact W.make_core (W.makes_of X hm) (W.looks_findIn X hi) hb (.inr ⟨rfl,rfl⟩) h
end
def putF (f:Str) (v:V):List (Str × V)→List (Str × V)
 | []=>[(f,v)]
 | (g,x) :: r=>if g=f then (g,v) :: r else (g,x) :: putF f v r
theorem lookup_putF (f g:Str) (v:V):∀ fs:List (Str × V),(putF f v fs).lookup g=if g=f then some v else fs.lookup g
 | []=>by
  show List.lookup g [(f,v)]=_
  by_cases h:g=f
  ·have hb:(g == f)=true:=beq_iff_eq.mpr h
   simp only [List.lookup,hb,if_pos h]
  ·have hb:(g == f)=false:=beq_eq_false_iff_ne.mpr h
   simp only [List.lookup,hb,if_neg h]
 | (k,x) :: r=>by
  have ih:=lookup_putF f g v r
  rw [show putF f v ((k,x) :: r)=(if k=f then (k,v) :: r else (k,x) :: putF f v r) from rfl]
  by_cases hk:k=f
  ·rw [if_pos hk]
   by_cases h:g=k
   ·have hb:(g == k)=true:=beq_iff_eq.mpr h
    simp only [List.lookup,hb,if_pos (h.trans hk)]
   ·have hb:(g == k)=false:=beq_eq_false_iff_ne.mpr h
    simp only [List.lookup,hb,if_neg (fun e:g=f=>h (e.trans hk.symm))]
  ·rw [if_neg hk]
   by_cases h:g=k
   ·have hb:(g == k)=true:=beq_iff_eq.mpr h
    simp only [List.lookup,hb,if_neg (fun e:g=f=>hk (h.symm.trans e))]
   ·have hb:(g == k)=false:=beq_eq_false_iff_ne.mpr h
    simp only [List.lookup,hb]
    exact ih
theorem keys_putF (f:Str) (v:V):∀ fs:List (Str × V),f∈(putF f v fs).map (·.1)∧∀ g,g∈fs.map (·.1)→g∈(putF f v fs).map (·.1)
 | []=>⟨by simp [putF],fun g h=>by simp at h⟩
 | (k,x) :: r=>by
  obtain ⟨i1,i2⟩:=keys_putF f v r
  rw [show putF f v ((k,x) :: r)=(if k=f then (k,v) :: r else (k,x) :: putF f v r) from rfl]
  by_cases hk:k=f
  ·rw [if_pos hk]
   subst hk
   exact ⟨by simp,fun g h=>by simpa using h⟩
  ·rw [if_neg hk]
   refine ⟨?_,fun g h=>?_⟩
   ·rw [List.map_cons]
    exact List.mem_cons_of_mem _ i1
   ·rw [List.map_cons] at h ⊢
    rcases List.mem_cons.mp h with e | e
    ·exact List.mem_cons.mpr (.inl e)
    ·exact List.mem_cons_of_mem _ (i2 g e)
theorem length_putF (f:Str) (v:V):∀ fs:List (Str × V),(putF f v fs).length≤fs.length + 1
 | []=>by simp [putF]
 | (k,x) :: r=>by
  have ih:=length_putF f v r
  rw [show putF f v ((k,x) :: r)=(if k=f then (k,v) :: r else (k,x) :: putF f v r) from rfl]
  by_cases hk:k=f
  ·rw [if_pos hk,List.length_cons,List.length_cons]; omega
  ·rw [if_neg hk,List.length_cons,List.length_cons]; omega
theorem RelO.some_of {v:V} {o:Option Value} (r:RelO (some v) o):∃ u,o=some u∧RelV v u:=by
 cases o with
 | none=>exact (show False from r).elim
 | some u=>exact ⟨u,rfl,r⟩
theorem RelO.none_of {o:Option Value} (r:RelO none o):o=none:=by
 cases o with
 | none=>rfl
 | some u=>exact (show False from r).elim
theorem handed_of {v:V} {u:Value} (r:RelV v u):W.handedIn u=true:=by
 cases v with
 | non=>cases (show u=Value.none from r); rfl
 | bl b=>cases (show u=Value.bool b from r); rfl
 | int i=>obtain ⟨t,e⟩:=(show ∃ t,u=Value.int i t from r); cases e; rfl
 | str x=>obtain ⟨t,e⟩:=(show ∃ t,u=Value.str x t from r); cases e; rfl
 | byt b=>obtain ⟨t,e⟩:=(show ∃ t,u=Value.bytes b t from r); cases e; rfl
 | flt b=>obtain ⟨t,e⟩:=(show ∃ t,u=Value.float b t from r); cases e; rfl
 | ref a=>cases (show u=Value.ref a from r); rfl
 | ty n=>cases (show u=Value.type n from r); rfl
section
variable {P : Program} {w : World} {H H' : Hp} {h h' : Heap} {a C dx : Addr} {fs fs' : List (Str × V)}
theorem ins_get (hok:HOk P w H h) (e:H a=some (.ins C dx fs)):∃ mA,ObjM h a dx C mA∧(∀ f,RelO (fs.lookup f) (mA f))∧PySem.Within mA (fs.map (·.1))∧fs.length≤1000∧H dx=some (.own a):=by
 obtain ⟨d,z,ne,ob,mA,n,r,q⟩:=(show ObjOk P w H h a (.ins C dx fs) from hok a _ e)
 exact ⟨mA,⟨ob,n,ne⟩,r,q,z,d⟩
end
structure Cls (K:W.Frag) (C:Addr):Prop where
 pg:W.plainGet K C Str.empty=true
 hd:W.hasDictIn K C=true
 po:W.plainOver K C=true
 sa:W.findIn K (.ref C) "__setattr__"=some (some (.builtin "object.__setattr__"))
theorem Cls.get {K:W.Frag} {C:Addr} (c:Cls K C) (f:Str):W.plainGet K C f=true:=c.pg
def NoAttr (K:W.Frag) (C:Addr) (f:Str):Prop:=W.findIn K (.ref C) f=some none
theorem NoAttr.taker {K:W.Frag} {C:Addr} {f:Str} (n:NoAttr K C f):W.takerIn K C f=some none:=by
 unfold W.takerIn
 rw [show W.findIn K (.ref C) f=some none from n]
 rfl
structure Con (K:W.Frag) (C:Addr) (f:Str) (v:V) (u:Value):Prop where
 at_:W.findIn K (.ref C) f=some (some u)
 rel:RelV v u
 get:W.specialIn K u "__get__"=some none
 cp:W.copiedNames.contains f=false
structure Meth (K:W.Frag) (C:Addr) (m:Str) (f:Addr):Prop where
 at_:W.findIn K (.ref C) m=some (some (.ref f))
 fn:W.isFn K (.ref f)=true
 kp:W.keepIn K (.ref f)=true
section
variable {X : Cx} {pins : List (Addr × Obj)} {σ : St} {H : Hp} {s : Shared} {a C dx : Addr} {fs : List (Str × V)} {f : Str} {v : V} {A : Around} {E : Value → Shared → Prop}
theorem getattr_ok {b:Bool} {Q:Value→Shared→Prop} (I:Inv X pins σ H s) (e:H a=some (.ins C dx fs)) (c:Cls X.K C) (n:NoAttr X.K C f) (l:fs.lookup f=some v)
  (h:∀ u s',Inv X pins σ H s'→RelV v u→Q u s'):wpAny (model X.prog X.w) A (getAttr (.ref a) f b) Q E s:=by
 obtain ⟨mA,O,r,_,_,_⟩:=ins_get I.hok e
 obtain ⟨u,hu,ru⟩:=RelO.some_of (v:=v) (o:=mA f) (by rw [← l]; exact r f)
 exact get_map I.kIn O (c.get f) c.hd n hu (handed_of ru) (h u _ (I.tok _) ru)
theorem getmeth_ok {m:Str} {g:Addr} {pl:Sem Bool} {Q:Value × List Value→Shared→Prop} (I:Inv X pins σ H s) (e:H a=some (.ins C dx fs)) (c:Cls X.K C) (k:Meth X.K C m g) (l:fs.lookup m=none)
  (h:Q (.ref g,[.ref a]) s):wpAny (model X.prog X.w) A (getMethod (.ref a) m pl) Q E s:=by
 obtain ⟨mA,O,r,_,_,_⟩:=ins_get I.hok e
 have hn:mA m=none:=RelO.none_of (by rw [← l]; exact r m)
 exact get_meth I.kIn O (c.get m) k.at_ k.fn hn h
theorem setattr_ok {y:V} {u:Value} {Q:Unit→Shared→Prop} (I:Inv X pins σ H s) (e:H a=some (.ins C dx fs)) (c:Cls X.K C) (n:NoAttr X.K C f) (hl:fs.length < 1000) (ry:RelV y u)
  (h:∀ s',Inv X pins σ (upd H a (.ins C dx (putF f y fs))) s'→Q () s'):wpAny (model X.prog X.w) A (setAttr (.ref a) f u) Q E s:=by
 obtain ⟨mA,O,r,wi,_,ho⟩:=ins_get I.hok e
 have hz:(fs.map (·.1)).length≤sizeLine:=by rw [List.length_map,sizeLine_eq]; omega
 refine set_map I.kIn O c.sa c.po n.taker c.hd wi hz fun h' O' sb=>h _ ?_
 have hd:∃ o,h'.get? dx=some o:=let ⟨o,_,_,e',_⟩:=O'.ns; ⟨o,e'⟩
 refine I.write (x:=a) (e:=dx) (by rw [e]; exact True.intro) (.inr ho) (fun b q hb z=>(sb.2 b hb).trans z) hd ?_
 refine ⟨by rw [upd_ne O.ne]; exact ho,?_,O.ne,O'.obj,_,O'.ns,fun g=>?_,fun g hg=>?_⟩
 ·have:=length_putF f y fs; omega
 ·show RelO ((putF f y fs).lookup g) (if g=f then some u else mA g)
  rw [lookup_putF]
  by_cases q:g=f
  ·rw [if_pos q,if_pos q]; exact ry
  ·rw [if_neg q,if_neg q]; exact r g
 ·by_cases q:g=f
  ·rw [q]; exact (keys_putF f y fs).1
  ·refine (keys_putF f y fs).2 g (wi g fun z=>hg ?_)
   show (if g=f then some u else mA g)=none
   rw [if_neg q]; exact z
theorem Inv.made (I:Inv X pins σ H s):Inv X pins σ (upd (upd H s.heap.objs.size (.own (s.heap.objs.size + 1))) (s.heap.objs.size + 1) (.ins C s.heap.objs.size []))
  { s with heap:=(s.heap.push W.emptyDict).push (W.instObj C s.heap.objs.size) }:=by
 have e1:(s.heap.push W.emptyDict).get? s.heap.objs.size=some W.emptyDict:=Heap.get?_push_size s.heap rfl
 have e2:((s.heap.push W.emptyDict).push (W.instObj C s.heap.objs.size)).get? (s.heap.objs.size + 1)=some (W.instObj C s.heap.objs.size):=by
  have:=Heap.get?_push_size (s.heap.push W.emptyDict) (o:=W.instObj C s.heap.objs.size) rfl
  rwa [Heap.size_push] at this
 have e3:(s.heap.push W.emptyDict).Ns s.heap.objs.size (fun _=>none):=⟨W.emptyDict,#[],_,e1,rfl,(fun e he=>absurd he (by simp)),fun _=>rfl⟩
 have I1:=I.laid (a:=s.heap.objs.size) (o:=.own (s.heap.objs.size + 1)) (h':=s.heap.push W.emptyDict) (t':=s.toks) (fun b u q=>Heap.get?_push_of_some _ q) (Nat.le_refl _) ⟨_,e1⟩
 refine I1.laid (a:=s.heap.objs.size + 1) (o:=.ins C s.heap.objs.size []) (t':=s.toks) (fun b u q=>Heap.get?_push_of_some _ q) (Nat.le_of_eq (Heap.size_push _ _)) ?_
 have ne:s.heap.objs.size≠s.heap.objs.size + 1:=Nat.ne_of_lt (Nat.lt_succ_self _)
 refine ⟨by rw [upd_ne ne,upd_same],Nat.zero_le _,ne,e2,fun _=>none,(Heap.Ns1.of_empty e3).at fun o q=>Heap.get?_push_of_some _ q,fun _=>True.intro,fun y hy=>absurd rfl hy⟩
theorem attr_of {prog:Program} {w:World} {env:Env} {e:Expr} {f:Str} {pos:Pos} {s:Shared} {Q:Value→Shared→Prop} (hb:attributeBase e f env (eval e env)=eval e env)
  (h:wpAny (model prog w) A (eval e env) (fun o s₁=>wpAny (model prog w) A (getAttr o f true) Q E s₁) E s):wpAny (model prog w) A (eval (.Attribute e f pos) env) Q E s :=
 Attribute_any_ h (by rw [arm_eval_Attribute,hb])
end
def tFld (K:W.Frag) (ta:TE) (f:Str):TE:=fun σ H Q=>ta σ H fun x H1=>∃ a C dx fs v,x=.ref a∧H1 a=some (.ins C dx fs)∧Cls K C∧NoAttr K C f∧fs.lookup f=some v∧Q v H1
def sFld (K:W.Frag) (ta tv:TE) (f:Str):TS:=fun D σ H=>tv σ H fun y H1=>ta σ H1 fun x H2=>∃ a C dx fs,x=.ref a∧H2 a=some (.ins C dx fs)∧Cls K C∧NoAttr K C f∧fs.length < 1000 ∧
 D.nx σ (upd H2 a (.ins C dx (putF f y fs)))
section
variable {X : Cx} {o e value : Expr} {f : Str} {pos pos' tpos : Pos} {ta tv : TE}
theorem pe_fld (he:PE X e ta) (hb:attributeBase e f X.env (eval e X.env)=eval e X.env):PE X (.Attribute e f pos) (tFld X.K ta f):=by
 intro pins s σ H Q I h
 refine attr_of hb (thn (he pins s σ H _ I h) fun u s1 ⟨x,H1,I1,rx,a,C,dx,fs,v,ex,ea,c,n,l,q⟩=>?_)
 subst ex
 obtain rfl:u=Value.ref a:=rx
 exact getattr_ok I1 ea c n l fun u' s2 I2 ru=>⟨v,H1,I2,ru,q⟩
theorem ps_fld (ha:PE X o ta) (hv:PE X value tv) (hs:swapsWith value (some (.Attribute o f pos')) pos.line X.env=pure false):PS X (.Assign [.Attribute o f pos'] value pos) (sFld X.K ta tv f):=by
 intro pins s σ H D I h
 refine plainObj_wpAny_Assign_Attribute (thn (hv pins s σ H _ I h) fun u s1 ⟨y,H1,I1,ry,q⟩=>thn (ha pins s1 σ H1 _ I1 q) fun ov s2 ⟨x,H2,I2,rx,a,C,dx,fs,ex,ea,c,n,l,q2⟩=>?_) hs
 subst ex
 obtain rfl:ov=Value.ref a:=rx
 exact setattr_ok I2 ea c n l ry fun s3 I3=>⟨σ,_,I3,q2⟩
end
section
variable {X : Cx} {pins : List (Addr × Obj)} {σ : St} {H : Hp} {s : Shared} {A : Around} {E : Value → Shared → Prop} {Q : Value → Shared → Prop} {c : Value} {b : Bool}
inductive TyOf (K:W.Frag) (H:Hp):V→Value→Prop where
 | non:TyOf K H .non (.type "NoneType")
 | bl (x:Bool):TyOf K H (.bl x) (.type "bool")
 | int (i:Int):TyOf K H (.int i) (.type "int")
 | str (x:Str):TyOf K H (.str x) (.type "str")
 | flt (x:UInt64):TyOf K H (.flt x) (.type "float")
 | lst {a:Addr} {xs:List V} (e:H a=some (.lst xs)):TyOf K H (.ref a) (.type "list")
 | frz {a:Addr} {o:Obj} {xs:List V} (e:H a=some (.frz o (.lst xs))):TyOf K H (.ref a) (.type "list")
 | tup {a:Addr} {xs:List V} (e:H a=some (.tup xs)):TyOf K H (.ref a) (.type "tuple")
 | dK {a:Addr} {kvs:List (Key × V)} (e:H a=some (.dK kvs)):TyOf K H (.ref a) (.type "dict")
 | dT {a:Addr} {kvs:List (List Key × V)} (e:H a=some (.dT kvs)):TyOf K H (.ref a) (.type "dict")
 | ins {a C dx:Addr} {fs:List (Str × V)} (e:H a=some (.ins C dx fs)) (cl:Cls K C) (ha:W.findIn K (.ref C) "__class__"=some (some (.builtin "object.__class__")))
   (hn:W.specialIn K (.builtin "object.__class__") "__get__"=some (some (.builtin "getset_descriptor.__get__"))) (htk:W.takesIn K (.builtin "object.__class__")=some true)
   (hm:W.mroIn K C (.type "object")=some true):TyOf K H (.ref a) (.ref C)
theorem isinst_ok {x:V} {u t:Value} (I:Inv X pins σ H s) (rx:RelV x u) (ty:TyOf X.K H x t) (e:W.kitOne X.K t c=some b) (h:∀ tk,Q (.bool b) { s with toks:=tk }) :
  wpAny (model X.prog X.w) A (call (.builtin "isinstance") [u,c]) Q E s:=by
 cases ty with
 | non=>cases (show u=Value.none from rx); exact W.kia_one W.kitx_none I.kIn True.intro e (fun z=>nomatch z) h
 | bl y=>cases (show u=Value.bool y from rx); exact W.kia_one W.kitx_bool I.kIn True.intro e (fun z=>nomatch z) h
 | int i=>obtain ⟨t,q⟩:=(show ∃ t,u=Value.int i t from rx); cases q; exact W.kia_one W.kitx_int I.kIn True.intro e (fun z=>nomatch z) h
 | str y=>obtain ⟨t,q⟩:=(show ∃ t,u=Value.str y t from rx); cases q; exact W.kia_one W.kitx_str I.kIn True.intro e (fun z=>nomatch z) h
 | flt y=>obtain ⟨t,q⟩:=(show ∃ t,u=Value.float y t from rx); cases q; exact W.kia_one W.kitx_float I.kIn True.intro e (fun z=>nomatch z) h
 | @lst a xs ea =>
  cases (show u=Value.ref a from rx)
  obtain ⟨_,_,n,_,h1⟩:=(show ObjOk X.prog X.w H s.heap a (.lst xs) from I.hok a _ ea)
  exact W.kia_one W.kitx_list I.kIn ⟨_,h1,rfl⟩ e (fun z=>nomatch z) h
 | @frz a ob xs ea =>
  cases (show u=Value.ref a from rx)
  obtain ⟨_,_,_,n,_,h1⟩:=(show ObjOk X.prog X.w H s.heap a (.frz ob (.lst xs)) from I.hok a _ ea)
  exact W.kia_one W.kitx_list I.kIn ⟨_,h1,rfl⟩ e (fun z=>nomatch z) h
 | @tup a xs ea =>
  cases (show u=Value.ref a from rx)
  obtain ⟨_,_,_,p⟩:=(show ObjOk X.prog X.w H s.heap a (.tup xs) from I.hok a _ ea)
  obtain ⟨o,h1,h2,_⟩:=p
  exact W.kia_one W.kitx_tuple I.kIn ⟨o,h1,h2⟩ e (fun z=>nomatch z) h
 | @dK a kvs ea =>
  cases (show u=Value.ref a from rx)
  obtain ⟨_,_,vs,_,p⟩:=(show ObjOk X.prog X.w H s.heap a (.dK kvs) from I.hok a _ ea)
  obtain ⟨o,es,ep,h1,h2,_⟩:=p
  exact W.kia_one W.kitx_dict I.kIn ⟨o,h1,h2.1⟩ e (fun z=>nomatch z) h
 | @dT a kvs ea =>
  cases (show u=Value.ref a from rx)
  obtain ⟨_,_,xs,_,o,es,ep,h1,h2,_⟩:=(show ObjOk X.prog X.w H s.heap a (.dT kvs) from I.hok a _ ea)
  exact W.kia_one W.kitx_dict I.kIn ⟨o,h1,h2.1⟩ e (fun z=>nomatch z) h
 | @ins a C dx fs ea cl ha hn htk hm =>
  cases (show u=Value.ref a from rx)
  obtain ⟨mA,O,_⟩:=ins_get I.hok ea
  obtain ⟨od,J,_⟩:=O.look
  exact W.kia_one (W.kitx_own (cl.get _) cl.hd ha hn htk hm) I.kIn J e (fun z=>nomatch z) h
end
end L2
namespace L2
open PySem PySem.Spec PyProof.Rows
structure Room (k:Nat) (A:Around):Prop where
 hd:A.handled=none
 dp:A.depth + 3 * k + 5 < recursionLimit
 un:A.units + 16 * k + 200 < cLine
 gd:A.guards=some []
theorem Room.mono {j k:Nat} {A:Around} (r:Room k A) (h:j≤k):Room j A:=⟨r.hd,by have:=r.dp; omega,by have:=r.un; omega,r.gd⟩
theorem Room.deeper {k:Nat} {A:Around} (r:Room (k + 1) A) (env:Env):Room k (A.deeper env) :=
 ⟨r.hd,by have:=r.dp; show A.depth + 1 + 3 * k + 5 < _; omega,by have:=r.un; show A.units + 3 + 16 * k + 200 < _; omega,r.gd⟩
theorem Room.in1 {k:Nat} {A:Around} (r:Room (k + 1) A):Room k A.in1 :=
 ⟨r.hd,by have:=r.dp; show A.depth + 3 * k + 5 < _; omega,by have:=r.un; show A.units + 1 + 16 * k + 200 < _; omega,r.gd⟩
theorem make_depth {A:Around} {C:Addr} {us:List Value} {kw:List (Str × Value)}:(A.under (.builtin "type.__call__" ⟨.ref C :: us,kw⟩)).depth=A.depth + 1:=by
 first | rfl | simp [Around.under,Code.weight,Code.isCreation,Code.isGuard,Code.isCaller,Code.frames,Code.isFrame,guardIds]
theorem make_units {A:Around} {C:Addr} {us:List Value} {kw:List (Str × Value)}:(A.under (.builtin "type.__call__" ⟨.ref C :: us,kw⟩)).units=A.units + 1:=by
 first | rfl | simp [Around.under,Code.cUnits,Code.frames,Code.isFrame]
theorem make_guards {A:Around} {C:Addr} {us:List Value} {kw:List (Str × Value)} (h:A.guards=some []):(A.under (.builtin "type.__call__" ⟨.ref C :: us,kw⟩)).guards=some []:=by
 have e:(Code.builtin "type.__call__" ⟨.ref C :: us,kw⟩).guards=[]:=by first | rfl | simp [Code.guards,Code.isGuard,guardIds]
 show pushGuards (Code.builtin "type.__call__" ⟨.ref C :: us,kw⟩).guards A.guards=some []
 rw [e,h]; rfl
theorem Room.make {k:Nat} {A:Around} (r:Room (k + 1) A) (C:Addr) (us:List Value) (kw:List (Str × Value)):Room k (A.under (.builtin "type.__call__" ⟨.ref C :: us,kw⟩)) :=
 ⟨r.hd,by have:=r.dp; rw [make_depth]; omega,by have:=r.un; rw [make_units]; omega,make_guards r.gd⟩
theorem Room.depth {k:Nat} {A:Around} (r:Room k A):A.depth < recursionLimit:=by have:=r.dp; omega
theorem Room.units {k:Nat} {A:Around} (r:Room k A):A.units + 64 < cLine:=by have:=r.un; omega
theorem Room.units0 {k:Nat} {A:Around} (r:Room k A):A.units < cLine:=by have:=r.un; omega
def tNil:TA:=fun _ H Q=>Q [] H
def tCons (ta:TE) (tr:TA):TA:=fun σ H Q=>ta σ H fun x H1=>tr σ H1 fun xs H2=>Q (x :: xs) H2
section
variable {X : Cx} {e : Expr} {es : List Expr} {te : TE} {t : TA} {pos : Pos}
theorem pa_nil:PA X [] tNil:=fun _ _ _ _ H Q I h=>Calls.spliced_nil ⟨[],H,I,.nil,h⟩
theorem pa_cons (ha:PE X e te) (hr:PA X es t) (hs:starEach (e :: es) X.env=(false,eval e X.env) :: starEach es X.env:=by rfl):PA X (e :: es) (tCons te t):=by
 intro pos pins s σ H Q I h
 rw [hs]
 show wpAny _ _ (spliced ((false,eval e X.env) :: backTo pos (starEach es X.env))) _ _ s
 refine Calls.spliced_cons (thn (ha pins s σ H _ I h) fun u s1 ⟨x,H1,I1,r1,q1⟩=>?_)
 exact thn (hr pos pins s1 σ H1 _ I1 q1) fun us s2 ⟨xs,H2,I2,r2,q2⟩=>⟨x :: xs,H2,I2,.cons r1 r2,q2⟩
def tTup (t:TA):TE:=fun σ H Q=>t σ H fun xs H1=>xs.length≤sizeLine∧∀ p,H1 p=none→Q (.ref p) (upd H1 p (.tup xs))
def tLst (t:TA):TE:=fun σ H Q=>t σ H fun xs H1=>xs.length≤sizeLine∧∀ p,H1 p=none→Q (.ref p) (upd H1 p (.lst xs))
theorem pe_tup {x1} (h:PA X es t):PE X (.Tuple es x1 pos) (tTup t):=by
 intro pins s σ H Q I hq
 refine wpAny_Tuple_spliced (thn (h pos pins s σ H _ I hq) fun us s1 ⟨xs,H1,I1,r,z,q⟩=>⟨by rw [← r.length]; exact z,?_⟩)
 have hf:H1 s1.heap.objs.size=none:=I1.hok.fresh (Nat.le_refl _)
 refine ⟨.ref s1.heap.objs.size,upd H1 s1.heap.objs.size (.tup xs),I1.laid (t':=s1.toks) (fun b u e=>Heap.get?_push_of_some _ e) (Nat.le_refl _) ?_,rfl,q _ hf⟩
 exact ⟨z,us,r,⟨_,Heap.get?_push_size _ rfl,rfl,_,rfl⟩⟩
theorem pe_lst (h:PA X es t):PE X (.List es pos) (tLst t):=by
 intro pins s σ H Q I hq
 refine wpAny_List_spliced (thn (h pos pins s σ H _ I hq) fun us s1 ⟨xs,H1,I1,r,z,q⟩=>⟨by rw [← r.length]; exact z,?_⟩)
 have hf:H1 s1.heap.objs.size=none:=I1.hok.fresh (Nat.le_refl _)
 refine ⟨.ref s1.heap.objs.size,upd H1 s1.heap.objs.size (.lst xs),I1.laid (t':=s1.toks) (fun b u e=>Heap.get?_push_of_some _ e) (Nat.le_refl _) ?_,rfl,q _ hf⟩
 exact ⟨z,us,0,r,Heap.get?_push_size _ rfl⟩
end
abbrev Sp:=List V→Hp→VK→XK→Prop
abbrev CXT:=List Env→Hp→Shared→XK→Value→Shared→Prop
structure Env0 (P:Program) (w:World) (K:W.Frag) (mg:Str→Option Value) (base:Heap) (A:Around) (outer:List Env) (s:Shared) (H:Hp):Prop where
 frames:A.frames=some outer
 mod:Mod K mg base
 bs:∀ b o,base.get? b=some o→s.heap.get? b=some o∧H b=none
 bsz:base.objs.size≤s.heap.objs.size
 funs:s.heap.FunFrames base outer
 frf:∀ b∈frs outer,H b=none
 hok:HOk P w H s.heap
 bare:AllBare s.gens
def CE (outer:List Env) (P:Program) (w:World) (H:Hp) (s:Shared) (Q:VK) (u:Value) (s':Shared):Prop :=
 ∃ v H',s'.os=s.os∧AllBare s'.gens∧Un (frs outer) [] H H' s.heap s'.heap∧HOk P w H' s'.heap∧RelV v u∧Q v H'
def CR (CX:CXT) (outer:List Env) (P:Program) (w:World) (H:Hp) (s:Shared) (Q:VK) (E:XK) (r:Result) (s':Shared):Prop :=
 match r with
 | .ok (.ret u)=>CE outer P w H s Q u s'
 | .ok _=>False
 | .error e=>CX outer H s E e s'
structure FnOk (P:Program) (w:World) (K:W.Frag) (mg:Str→Option Value) (base:Heap) (CX:CXT) (k:Nat) (f:Addr) (fd:FuncData) (ps:List Str) (sp:Sp):Prop where
 len:∀ vs H Q E,sp vs H Q E→vs.length=ps.length
 run:∀ (A:Around) (outer:List Env) (s:Shared) (H:Hp) (args:Args) (us:List Value) (vs:List V) (Q:VK) (E:XK),Room k A→Env0 P w K mg base A outer s H→BindsTo s fd args (ps.zip us)→Vals vs us→sp vs H Q E →
  codeAny (model P w) A (.call (.ref f) args) (CR CX outer P w H s Q E) s
theorem FnOk.imp {P:Program} {w:World} {K:W.Frag} {mg:Str→Option Value} {base:Heap} {CX:CXT} {k:Nat} {f:Addr} {fd:FuncData} {ps:List Str} {sp sp':Sp} (F:FnOk P w K mg base CX k f fd ps sp)
  (h:∀ vs H Q E,sp' vs H Q E→sp vs H Q E):FnOk P w K mg base CX k f fd ps sp' :=
 ⟨fun vs H Q E q=>F.len vs H Q E (h _ _ _ _ q),fun A outer s H args us vs Q E hr he hb hv hs=>F.run A outer s H args us vs Q E hr he hb hv (h _ _ _ _ hs)⟩
theorem Env0.make {P:Program} {w:World} {K:W.Frag} {mg:Str→Option Value} {base:Heap} {A:Around} {outer:List Env} {s:Shared} {H:Hp} (e:Env0 P w K mg base A outer s H) (C:Addr) (us:List Value) (kw:List (Str × Value)) :
  Env0 P w K mg base (A.under (.builtin "type.__call__" ⟨.ref C :: us,kw⟩)) outer s H:=⟨by first | exact e.frames | (simpa [Around.under,Code.envs,Code.isFrame,pushEnvs] using e.frames),e.mod,e.bs,e.bsz,e.funs,e.frf,e.hok,e.bare⟩
theorem Env0.in1 {P:Program} {w:World} {K:W.Frag} {mg:Str→Option Value} {base:Heap} {A:Around} {outer:List Env} {s:Shared} {H:Hp} (e:Env0 P w K mg base A outer s H) :
  Env0 P w K mg base A.in1 outer s H:=⟨e.frames,e.mod,e.bs,e.bsz,e.funs,e.frf,e.hok,e.bare⟩
section
variable {X : Cx} {pins : List (Addr × Obj)} {σ : St} {H : Hp} {s s' : Shared}
theorem Inv.env0 (I:Inv X pins σ H s):Env0 X.prog X.w X.K X.mg X.base X.A X.stack s H :=
 ⟨I.ok.frames,I.ok.mod,I.bs,Nat.le_trans I.ok.bsz I.sz,I.stack,I.stkFree,I.hok,I.bare⟩
theorem Inv.after {Q:VK} {u:Value} (I:Inv X pins σ H s) (h:CE X.stack X.prog X.w H s Q u s'):EP X pins σ Q u s':=by
 obtain ⟨v,H',os,bare,un,hok,r,q⟩:=h
 obtain ⟨hh,g,d,t,os'⟩:=s'
 obtain rfl:os'=s.os:=os
 exact ⟨v,H',I.call (h':=hh) (g':=g) (d':=d) (t':=t) (ch:=[]) un hok bare (fun b z=>absurd z (by simp)),r,q⟩
end
def tCall (sp:Sp) (dvs:List V) (E:XK) (t:TA):TE:=fun σ H Q=>t σ H fun vs H1=>sp (vs ++ dvs) H1 Q E
def tMake (C:Addr) (sp:Sp) (dvs:List V) (E:XK) (t:TA):TE:=fun σ H Q=>t σ H fun vs H1=>∀ x dx,H1 x=none→H1 dx=none→dx≠x →
 sp (.ref x :: (vs ++ dvs)) (upd (upd H1 dx (.own x)) x (.ins C dx [])) (fun v H2=>v=.non∧Q (.ref x) H2) E
def Binds (K:W.Frag) (fd:FuncData) (ps:List Str) (ds:List Value):Prop :=
 ∀ (s:Shared) (us:List Value),K.In s.heap→(us ++ ds).length=ps.length→BindsTo s fd ⟨us,[]⟩ (ps.zip (us ++ ds))
theorem Binds.all {K:W.Frag} {fd:FuncData} {ps:List Str} (h:∀ us:List Value,us.length=ps.length→bindArgs fd ⟨us,[]⟩=pure (ps.zip us)):Binds K fd ps []:=fun s us _ hl=>by
 rw [List.append_nil] at hl ⊢
 exact .of_eq (h us hl)
def Passes (CX:CXT) (X:Cx) (E:XK):Prop:=∀ (pins:List (Addr × Obj)) (σ:St) (H:Hp) (s:Shared) (e:Value) (s':Shared),Inv X pins σ H s→CX X.stack H s E e s'→X.xe e s'
section
variable {X : Cx} {CX : CXT} {k : Nat} {f C : Addr} {fd : FuncData} {ps : List Str} {sp : Sp} {dvs : List V} {ds : List Value} {E : XK} {x m : Str} {p pos apos : Pos} {e o : Expr} {es : List Expr} {ta : TE} {t : TA}
theorem run_fn {pins:List (Addr × Obj)} {σ:St} {H:Hp} {s:Shared} {Q:VK} {us:List Value} {vs:List V} (F:FnOk X.prog X.w X.K X.mg X.base CX k f fd ps sp) (hr:Room k X.A) (hb:Binds X.K fd ps ds) (hd:Vals dvs ds) (hx:Passes CX X E)
  (I:Inv X pins σ H s) (r:Vals vs us) (h:sp (vs ++ dvs) H Q E):wpAny (model X.prog X.w) X.A (call (.ref f) us) (EP X pins σ Q) X.xe s:=by
 have r2:Vals (vs ++ dvs) (us ++ ds):=r.append hd
 have hl:(us ++ ds).length=ps.length:=by rw [← r2.length]; exact F.len _ _ _ _ h
 refine wpAny_call (codeAny_mono (F.run X.A X.stack s H ⟨us,[]⟩ (us ++ ds) (vs ++ dvs) Q E hr I.env0 (hb s us I.kIn hl) r2 h) fun r s' hq=>?_)
 cases r with
 | error e=>exact hx pins σ H s e s' I hq
 | ok fl =>
  cases fl with
  | ret u=>exact I.after hq
  | next=>exact False.elim hq
  | brk=>exact False.elim hq
  | cont=>exact False.elim hq
theorem pe_call (F:FnOk X.prog X.w X.K X.mg X.base CX k f fd ps sp) (hr:Room k X.A) (hg:Gl X x) (hm:X.mg x=some (.ref f)) (hk:W.keepIn X.K (.ref f)=true) (hb:Binds X.K fd ps ds) (hd:Vals dvs ds) (hx:Passes CX X E)
  (ha:PA X (e :: es) t) (hdb:(x == ("__debug__":Str))=false:=by decide) (he:starEach (e :: es) X.env=(false,eval e X.env) :: starEach es X.env:=by rfl) (hpl:(backTo pos (starEach es X.env)).any (·.1)=false:=by rfl) :
  PE X (.Call (.Name x p) (e :: es) [] pos) (tCall sp dvs E t):=by
 intro pins s σ H Q I h
 refine wpAny_Call_Name_kw (ld_glob I hg hm ?_ hdb)
 refine W.callWith_K (h₀:=X.base) I.ok.mod.kin hk (thn (ha pos pins s σ H _ I h) fun us s1 ⟨vs,H1,I1,r,q⟩=>⟨I1.kIn,?_⟩) he hpl
 exact run_fn F hr hb hd hx I1 r q
structure Mk (K:W.Frag) (C f:Addr):Prop where
 makes:W.makesIn K C=true
 init:W.findIn K (.ref C) "__init__"=some (some (.ref f))
 fn:W.isFn K (.ref f)=true
 kp:W.keepIn K (.ref C)=true
theorem run_make {pins:List (Addr × Obj)} {σ:St} {H:Hp} {s:Shared} {Q:VK} {us:List Value} {vs:List V} (M:Mk X.K C f) (F:FnOk X.prog X.w X.K X.mg X.base CX k f fd ps sp) (hr:Room (k + 1) X.A) (hb:Binds X.K fd ps ds) (hd:Vals dvs ds)
  (hx:Passes CX X E) (I:Inv X pins σ H s) (r:Vals vs us)
  (h:∀ x dx,H x=none→H dx=none→dx≠x→sp (.ref x :: (vs ++ dvs)) (upd (upd H dx (.own x)) x (.ins C dx [])) (fun v H2=>v=.non∧Q (.ref x) H2) E) :
  wpAny (model X.prog X.w) X.A (call (.ref C) us) (EP X pins σ Q) X.xe s:=by
 have hq:=h (s.heap.objs.size + 1) s.heap.objs.size (I.hok.fresh (Nat.le_succ _)) (I.hok.fresh (Nat.le_refl _)) (Nat.ne_of_lt (Nat.lt_succ_self _))
 have I2:=Inv.made (C:=C) I
 have r2:Vals (V.ref (s.heap.objs.size + 1) :: (vs ++ dvs)) (Value.ref (s.heap.objs.size + 1) :: (us ++ ds)):=.cons rfl (r.append hd)
 have hl:(Value.ref (s.heap.objs.size + 1) :: us ++ ds).length=ps.length:=by
  have e:=r2.length
  rw [F.len _ _ _ _ hq] at e
  exact e.symm
 refine wpAny_call (make_map (f:=f) I.kIn M.makes M.init (beq_iff_eq.mp M.fn) (codeAny_mono (F.run _ X.stack _ _ ⟨Value.ref (s.heap.objs.size + 1) :: us,[]⟩ (Value.ref (s.heap.objs.size + 1) :: (us ++ ds)) _ _ E (hr.make C us [])
  (I2.env0.make C us []) (hb _ (Value.ref (s.heap.objs.size + 1) :: us) I2.kIn hl) r2 hq) fun r s' hq'=>?_))
 cases r with
 | error e=>exact hx pins σ _ _ e s' I2 hq'
 | ok fl =>
  cases fl with
  | ret u =>
   obtain ⟨v,H',I3,rv,ev,q3⟩:=I2.after hq'
   subst ev
   exact ⟨rv,⟨V.ref (s.heap.objs.size + 1),H',I3,rfl,q3⟩⟩
  | next=>exact False.elim hq'
  | brk=>exact False.elim hq'
  | cont=>exact False.elim hq'
theorem pe_make (M:Mk X.K C f) (F:FnOk X.prog X.w X.K X.mg X.base CX k f fd ps sp) (hr:Room (k + 1) X.A) (hg:Gl X x) (hm:X.mg x=some (.ref C)) (hb:Binds X.K fd ps ds) (hd:Vals dvs ds) (hx:Passes CX X E)
  (ha:PA X (e :: es) t) (hdb:(x == ("__debug__":Str))=false:=by decide) (he:starEach (e :: es) X.env=(false,eval e X.env) :: starEach es X.env:=by rfl) (hpl:(backTo pos (starEach es X.env)).any (·.1)=false:=by rfl) :
  PE X (.Call (.Name x p) (e :: es) [] pos) (tMake C sp dvs E t):=by
 intro pins s σ H Q I h
 refine wpAny_Call_Name_kw (ld_glob I hg hm ?_ hdb)
 refine W.callWith_K (h₀:=X.base) I.ok.mod.kin M.kp (thn (ha pos pins s σ H _ I h) fun us s1 ⟨vs,H1,I1,r,q⟩=>⟨I1.kIn,?_⟩) he hpl
 exact run_make M F hr hb hd hx I1 r q
end
section
variable {X : Cx} {CX : CXT} {k : Nat} {f C : Addr} {fd : FuncData} {ps ks : List Str} {sp : Sp} {E : XK} {x m : Str} {p pos apos kpos : Pos} {e o : Expr} {es : List Expr} {kws : List Keyword} {te ta : TE} {t tk : TA} {nm : Option Str}
structure KBinds (K:W.Frag) (fd:FuncData) (ps ks:List Str) (g:List Value→List Value→List Value) (gV:List V→List V→List V):Prop where
 to:∀ (s:Shared) (us ws:List Value),K.In s.heap→(g us ws).length=ps.length→BindsTo s fd ⟨us,ks.zip ws⟩ (ps.zip (g us ws))
 rel:∀ {vs:List V} {us:List Value} {zs:List V} {ws:List Value},Vals vs us→Vals zs ws→Vals (gV vs zs) (g us ws)
variable {g : List Value → List Value → List Value} {gV : List V → List V → List V}
end
structure FnScope (N P:List Str) (sc:Scope):Prop where
 kind:sc.kind=.function
 co:sc.isCoroutine=false
 gen:sc.isGenerator=false
 nd:N.Nodup
 pre:N.take P.length=P
 par:∀ x∈P,sc.names.lookup x=some .local∨sc.names.lookup x=some .cell
 nofree:∀ y∈sc.names,y.2≠.free
theorem bindL_out {kindOf:Str→Option NameKind} {x:Str}:∀ {binds:List (Str × Value)} {m:Str→Option Value},(∀ v,(x,v) ∉ binds)→bindL kindOf binds m x=m x
 | [],_,_=>rfl
 | (n,v) :: r,m,h=>by
  unfold bindL
  rw [bindL_out fun w hw=>h w (List.mem_cons_of_mem _ hw)]
  split
  ·have:x≠n:=by rintro rfl; exact h v List.mem_cons_self
   simp [this]
  ·rfl
theorem bindC_out {kindOf:Str→Option NameKind} {x:Str}:∀ {binds:List (Str × Value)} {m:Str→Option Value},(∀ v,(x,v) ∉ binds)→bindC kindOf binds m x=m x
 | [],_,_=>rfl
 | (n,v) :: r,m,h=>by
  unfold bindC
  rw [bindC_out fun w hw=>h w (List.mem_cons_of_mem _ hw)]
  split
  ·rfl
  ·have:x≠n:=by rintro rfl; exact h v List.mem_cons_self
   simp [this]
theorem bindL_get {kindOf:Str→Option NameKind} {x:Str} {v:Value}:∀ {P:List Str} {vs:List Value} {i:Nat} {m:Str→Option Value},P.Nodup→P[i]?=some x→vs[i]?=some v→kindOf x=some .local →
  bindL kindOf (P.zip vs) m x=some v
 | [],_,_,_,_,h,_,_=>by simp at h
 | _ :: _,[],_,_,_,_,h,_=>by simp at h
 | p :: P,w :: vs,0,m,nd,h1,h2,hk=>by
  simp at h1 h2; subst h1; subst h2
  show bindL kindOf ((p,w) :: P.zip vs) m p=_
  unfold bindL
  rw [bindL_out fun v hv=>(List.nodup_cons.mp nd).1 (List.of_mem_zip hv).1,if_pos hk]
  simp
 | p :: P,w :: vs,i + 1,m,nd,h1,h2,hk=>by
  show bindL kindOf ((p,w) :: P.zip vs) m x=_
  unfold bindL
  exact bindL_get (i:=i) (List.nodup_cons.mp nd).2 (by simpa using h1) (by simpa using h2) hk
theorem bindC_get {kindOf:Str→Option NameKind} {x:Str} {v:Value}:∀ {P:List Str} {vs:List Value} {i:Nat} {m:Str→Option Value},P.Nodup→P[i]?=some x→vs[i]?=some v→kindOf x≠some .local →
  bindC kindOf (P.zip vs) m x=some v
 | [],_,_,_,_,h,_,_=>by simp at h
 | _ :: _,[],_,_,_,_,h,_=>by simp at h
 | p :: P,w :: vs,0,m,nd,h1,h2,hk=>by
  simp at h1 h2; subst h1; subst h2
  show bindC kindOf ((p,w) :: P.zip vs) m p=_
  unfold bindC
  rw [bindC_out fun v hv=>(List.nodup_cons.mp nd).1 (List.of_mem_zip hv).1,if_neg hk]
  simp
 | p :: P,w :: vs,i + 1,m,nd,h1,h2,hk=>by
  show bindC kindOf ((p,w) :: P.zip vs) m x=_
  unfold bindC
  exact bindC_get (i:=i) (List.nodup_cons.mp nd).2 (by simpa using h1) (by simpa using h2) hk
def start (N:List Str) (vs:List V):St:=vs.map some ++ List.replicate (N.length - vs.length) none
def cxOf (CX:CXT) (P:Program) (w:World) (K:W.Frag) (mg:Str→Option Value) (base:Heap) (N:List Str) (qual:Str) (scope:Scope) (f:Addr) (cd:Value) (A:Around) (outer:List Env) (s:Shared) (H:Hp) (E:XK):Cx where
 prog:=P
 w:=w
 K:=K
 mg:=mg
 base:=base
 A:=A.deeper (envOfC qual scope s.heap.objs.size f cd)
 N:=N
 s₀:=s
 H₀:=H
 env:=envOfC qual scope s.heap.objs.size f cd
 outer:=outer
 stack:=envOfC qual scope s.heap.objs.size f cd :: outer
 ex:=[]
 calm:=true
 fn:=fun _=>true
 pn:=[]
 kn:=fun _=>Option.none
 xe:=fun e s'=>wpAny (model P w) (A.deeper (envOfC qual scope s.heap.objs.size f cd)) (leaving (envOfC qual scope s.heap.objs.size f cd) e) (fun _ s''=>CX outer H s E e s'') (fun e' s''=>CX outer H s E e' s'') s'
theorem cell_has {sc:Scope} {n:Nat} {x:Str} (h:sc.names.lookup x=some .cell):∃ c,(cellsFrom n sc.names []).lookup x=some c:=by
 have q:=W.cellsFrom_some sc.names n [] (.inl h)
 exact Option.isSome_iff_exists.mp q
theorem inv_start {CX:CXT} {P:Program} {w:World} {K:PySem.W.Frag} {mg:Str→Option Value} {base:Heap} {N ps:List Str} {qual:Str} {scope:Scope} {f:Addr} {cd:Value} {A:Around} {outer:List Env} {s s1:Shared} {H:Hp} {E:XK} {us:List Value} {vs:List V}
  (S:FnScope N ps scope) (hd:A.handled=none) (e0:Env0 P w K mg base A outer s H) (hl:vs.length=ps.length) (r:Vals vs us)
  (x:InCallC s s.heap.objs.size (bindL (envOfC qual scope s.heap.objs.size f cd).kindOf (ps.zip us) fun _=>none) (cellsFrom (s.heap.objs.size + 1) scope.names []) (bindC (envOfC qual scope s.heap.objs.size f cd).kindOf (ps.zip us) fun _=>none) s1) :
  Inv (cxOf CX P w K mg base N qual scope f cd A outer s H E) [] (start N vs) H s1:=by
 have hpl:ps.length≤N.length:=by have:=congrArg List.length S.pre; rw [List.length_take] at this; omega
 obtain ⟨h1,tk,rfl,hk⟩:=x.done
 have noA:∀ b:Addr,b ∉ (cxOf CX P w K mg base N qual scope f cd A outer s H E).ex:=fun b z=>absurd (show b∈([]:List Addr) from z) (by simp)
 refine ⟨⟨e0.mod,S.kind,rfl,rfl,Nat.le_refl _,fun y z c h1 h2=>?_,fun y hy=>?_,fun y c _ h=>?_,fun _=>hd,Around.frames_deeper e0.frames,.inr ⟨rfl,rfl⟩,fun b z=>absurd z (noA b),e0.bs,e0.bsz,fun b _ _=>noA b,fun b z=>absurd z (noA b),e0.funs,e0.frf⟩,
  rfl,e0.bare,Un.kept hk,⟨_,x.toInCall.ns,fun i y v h1 h2 h3=>?_⟩,fun y c h=>⟨_,x.cell y c h⟩,e0.hok.fresh (Nat.le_refl _),fun y c h=>?_,fun p hp=>absurd (show p∈([]:List (Addr × Obj)) from hp) (by simp),e0.hok.kept hk,?_,fun _ _ z=>nomatch z⟩
 ·exact name_of_addr x.apart (PySem.mem_of_lookup h1) (PySem.mem_of_lookup h2)
 ·have hy:scope.names.lookup y=some .cell∨scope.names.lookup y=some .free:=hy
  rcases hy with hy | hy
  ·exact cell_has hy
  ·exact absurd rfl (S.nofree _ (PySem.mem_of_lookup hy))
 ·exact Nat.le_of_lt (x.above y c (PySem.mem_of_lookup h))
 ·have hi:i < vs.length:=by
   unfold start at h2
   by_cases hi:i < vs.length
   ·exact hi
   ·rw [List.getElem?_append_right (by simpa using hi)] at h2
    rw [List.getElem?_replicate] at h2
    split at h2 <;> cases h2
  have ha:vs[i]?=some v:=by
   unfold start at h2
   rw [List.getElem?_append_left (by simpa using hi),List.getElem?_map] at h2
   cases e:vs[i]? with
   | none=>rw [e] at h2; cases h2
   | some a=>rw [e] at h2; cases h2; rfl
  obtain ⟨u,hu,rv⟩:=r.get ha
  have hp:ps[i]?=some y:=by
   rw [← S.pre,List.getElem?_take_of_lt (by omega)]; exact h1
  have ndP:ps.Nodup:=by rw [← S.pre]; exact S.nd.sublist (List.take_sublist _ _)
  refine ⟨u,rv,?_⟩
  rcases S.par y (List.mem_of_getElem? hp) with k | k
  ·exact .inl ⟨k,bindL_get ndP hp hu k⟩
  ·obtain ⟨c,e⟩:=cell_has (n:=s.heap.objs.size + 1) k
   refine .inr ⟨.inl k,c,e,?_⟩
   have q:=x.cell y c e
   rw [bindC_get ndP hp hu (by show scope.names.lookup y≠_; rw [k]; decide)] at q
   exact q
 ·exact e0.hok.fresh (Nat.le_of_lt (x.above y c (PySem.mem_of_lookup h)))
 ·unfold start
  show _=N.length
  rw [List.length_append,List.length_map,List.length_replicate]
  omega
theorem fn_of {CX:CXT} {P:Program} {w:World} {K:W.Frag} {mg:Str→Option Value} {base:Heap} {k:Nat} {f:Addr} {name qual:Str} {params:Arguments} {body:List Stmt} {scope:Scope} {dV kV doc pm cdv ct oc:Value} {an od:Option Addr}
  {osl:Array (Option Value)} {N ps:List Str} {sp:Sp} (lk:K.lookup f=some ⟨oc,od,.func (W.fnOf name qual params body scope dV kV doc pm an cdv ct),osl⟩) (hcd:W.codeIn K cdv qual=true) (S:FnScope N ps scope)
  (len:∀ vs H Q E,sp vs H Q E→vs.length=ps.length)
  (hbody:∀ (A:Around) (outer:List Env) (s:Shared) (H:Hp) (vs:List V) (Q:VK) (E:XK),Room k (A.deeper (envOfC qual scope s.heap.objs.size f cdv))→sp vs H Q E →
   ∃ t,PSs (cxOf CX P w K mg base N qual scope f cdv A outer s H E) body t∧t { nx:=fun _ H'=>Q .non H',rt:=Q } (start N vs) H) :
  FnOk P w K mg base CX (k + 1) f (W.fnOf name qual params body scope dV kV doc pm an cdv ct) ps sp:=by
 refine ⟨len,fun A outer s H args us vs Q E hr e0 hb r hsp=>?_⟩
 have hl:=len _ _ _ _ hsp
 have KX:K.In s.heap:=e0.mod.kin.keeps fun b o e=>(e0.bs b o e).1
 have lim:s.heap.NoLimit:=e0.mod.nolimit.keeps fun b o e=>(e0.bs b o e).1
 have hkind:∀ y∈ps.zip us,scope.names.lookup y.1=some .local∨(scope.names.lookup y.1=some .cell∧((cellsFrom (s.heap.objs.size + 1) scope.names []).lookup y.1).isSome=true):=fun ⟨n,v⟩ hy=>by
  rcases S.par n (List.of_mem_zip hy).1 with q | q
  ·exact .inl q
  ·exact .inr ⟨q,W.cellsFrom_some _ _ _ (.inl q)⟩
 refine codeAny_call_function hr.depth (KX _ _ lk) rfl S.co S.gen rfl (W.codeRec_of KX hcd) (hb _ _ _ _ ?_)
 refine wpAny_newFunctionEnv_cells S.kind hkind fun env he s1 x=>?_
 subst he
 refine ⟨lim.keeps x.toInCall.keep,codeAny_func ?_⟩
 obtain ⟨t,ht,hq⟩:=hbody A outer s H vs Q E (hr.deeper _) hsp
 have I:Inv (cxOf CX P w K mg base N qual scope f cdv A outer s H E) [] (start N vs) H s1:=inv_start S hr.hd e0 hl r x
 refine wpAny_mono (ht [] s1 (start N vs) H _ I hq) (fun fl s' hs=>?_) fun e s' hs=>hs
 have fin:∀ {σ':St} {H':Hp} {v:V} {u:Value},Inv (cxOf CX P w K mg base N qual scope f cdv A outer s H E) [] σ' H' s'→RelV v u→Q v H'→CE outer P w H s Q u s' :=
  fun {σ' H' v u} J rv q=>⟨v,H',J.os,J.bare,J.base,J.hok,rv,q⟩
 cases fl with
 | ret u =>
  obtain ⟨v,σ',H',J,rv,q⟩:=hs
  exact fin J rv q
 | next =>
  obtain ⟨σ',H',J,q⟩:=hs
  exact fin (v:=V.non) (u:=Value.none) J rfl q
 | brk =>
  obtain ⟨_,_,_,q⟩:=hs
  exact False.elim q
 | cont =>
  obtain ⟨_,_,_,q⟩:=hs
  exact False.elim q
end L2
namespace L2
open PySem PySem.Spec PyProof.Rows
section
variable {X : Cx} {x : Str} {p pos : Pos} {e : Expr} {es : List Expr} {t : TA} {id T : String} {r : List V → Hp → VK → Prop}
def tCB (r:List V→Hp→VK→Prop) (t:TA):TE:=fun σ H Q=>t σ H fun vs H1=>r vs H1 Q
theorem pe_callB (hc:CallR X (.builtin id) r) (hg:Gl X x) (hm:X.mg x=none) (hv:bootBuiltins x=some (.builtin id)) (ha:PA X (e :: es) t) (hn:x≠"__name__":=by decide) (hdb:(x == ("__debug__":Str))=false:=by decide)
  (he:starEach (e :: es) X.env=(false,eval e X.env) :: starEach es X.env:=by rfl) (hpl:(backTo pos (starEach es X.env)).any (·.1)=false:=by rfl):PE X (.Call (.Name x p) (e :: es) [] pos) (tCB r t):=by
 intro pins s σ H Q I h
 refine wpAny_Call_Name_kw (ld_blt I hg hm hv ?_ hn hdb)
 exact PyProof.Rows.callWith_builtin1 (thn (ha pos pins s σ H _ I h) fun us s1 ⟨vs,H1,I1,r1,q1⟩=>hc pins s1 σ H1 vs us Q I1 r1 q1) he hpl
theorem pe_callTy (hc:CallR X (.type T) r) (hg:Gl X x) (hm:X.mg x=none) (hv:bootBuiltins x=some (.type T)) (ha:PA X (e :: es) t) (hn:x≠"__name__":=by decide) (hdb:(x == ("__debug__":Str))=false:=by decide)
  (he:starEach (e :: es) X.env=(false,eval e X.env) :: starEach es X.env:=by rfl) (hpl:(backTo pos (starEach es X.env)).any (·.1)=false:=by rfl):PE X (.Call (.Name x p) (e :: es) [] pos) (tCB r t):=by
 intro pins s σ H Q I h
 refine wpAny_Call_Name_kw (ld_blt I hg hm hv ?_ hn hdb)
 exact PyProof.Rows.callWith_type1 (thn (ha pos pins s σ H _ I h) fun us s1 ⟨vs,H1,I1,r1,q1⟩=>hc pins s1 σ H1 vs us Q I1 r1 q1) he hpl
end
end L2
namespace HT
open PySem PyProof.Rows
section
open PySem.SeqAt
open PySem.AutoSeq1 (wpAny_loadPart')
open PySem.MeetsSeq PySem.MeetsSeq2 PySem.MeetsSeq3
end
section
variable {prog : Program} {w : World} {A : Around} {E : Value → Shared → Prop} {s : Shared}
end
end HT
namespace L2
open PySem PySem.Spec PyProof.Rows
abbrev TO:=St→Hp→(Option Int→Hp→Prop)→Prop
def PO (X:Cx) (e:Option Expr) (t:TO):Prop :=
 ∀ (pins:List (Addr × Obj)) (s:Shared) (σ:St) (H:Hp) (Q:Option Int→Hp→Prop),Inv X pins σ H s→t σ H Q →
  wpAny (model X.prog X.w) X.A (evalPart e X.env) (fun u s'=>∃ o H',Inv X pins σ H' s'∧IsPart u o∧Q o H') X.xe s
section
variable {X : Cx} {e : Expr} {te : TE} {lo hi : Option Expr} {tl th : TO} {pos p2 : Pos}
end
end L2
namespace L2
open PySem PySem.Spec PyProof.Rows
def ixN (n:Nat) (i:Int):Option Nat:=if 0≤i then (if i < n then some i.toNat else none) else if -(n:Int)≤i then some (i + n).toNat else none
def atI {α:Type} (xs:List α) (i:Int):Option α:=(ixN xs.length i).bind fun j=>xs[j]?
theorem ixN_seq {n:Nat} {i:Int} {j:Nat} (h:ixN n i=some j):seqIndex? i n=some j∧j < n∧-(n:Int)≤i∧i < n:=by
 unfold ixN at h
 by_cases h0:0≤i
 ·rw [if_pos h0] at h
  by_cases h1:i < n
  ·rw [if_pos h1] at h
   have e:i.toNat=j:=Option.some.inj h
   exact ⟨by rw [seqIndex_of h0 h1,e],by omega,by omega,h1⟩
  ·rw [if_neg h1] at h; cases h
 ·rw [if_neg h0] at h
  by_cases h1:-(n:Int)≤i
  ·rw [if_pos h1] at h
   have e:(i + n).toNat=j:=Option.some.inj h
   exact ⟨by rw [seqIndex_neg (by omega) h1,e],by omega,h1,by omega⟩
  ·rw [if_neg h1] at h; cases h
theorem atI_get {α:Type} {xs:List α} {i:Int} {v:α} (h:atI xs i=some v):∃ j,seqIndex? i xs.length=some j∧xs[j]?=some v∧j < xs.length∧-(xs.length:Int)≤i∧i < xs.length:=by
 unfold atI at h
 cases e:ixN xs.length i with
 | none=>rw [e] at h; cases h
 | some j =>
  rw [e] at h
  obtain ⟨h1,h2,h3,h4⟩:=ixN_seq e
  exact ⟨j,h1,h,h2,h3,h4⟩
theorem atI_nat {α:Type} {xs:List α} {j:Nat} {v:α} (h:xs[j]?=some v):atI xs (j:Int)=some v:=by
 have hj:j < xs.length:=(List.getElem?_eq_some_iff.mp h).1
 have e:ixN xs.length (j:Int)=some j:=by
  unfold ixN
  rw [if_pos (by omega),if_pos (by omega)]; simp
 unfold atI; rw [e]; exact h
def PlainIx (b:Expr):Prop:=∀ o i,subscripted b false o i=operate [o,i] (getItem o i)
def IxR (X:Cx) (r:R2):Prop :=
 ∀ (value slice:Expr) (pins:List (Addr × Obj)) (s:Shared) (σ:St) (H:Hp) (x y:V) (v u:Value) (Q:VK),Inv X pins σ H s→RelV x v→RelV y u→r x y H Q →
  subscripted slice false v u=operate [v,u] (getItem v u)→wpAny (model X.prog X.w) X.A (subscriptTail value slice v u) (EP X pins σ Q) X.xe s
def MtR (X:Cx) (id:String) (r:V→List V→Hp→VK→Prop):Prop :=
 ∀ (pins:List (Addr × Obj)) (s:Shared) (σ:St) (H:Hp) (x:V) (xs:List V) (v:Value) (us:List Value) (Q:VK),Inv X pins σ H s→RelV x v→Vals xs us→r x xs H Q →
  wpAny (model X.prog X.w) X.A (call (.builtin id) (v :: us)) (EP X pins σ Q) X.xe s
section
variable {X : Cx} {a b : Expr} {ta tb : TE} {pos : Pos}
theorem pe_ix {r:R2} (hr:IxR X r) (ha:PE X a ta) (hb:PE X b tb) (hs:PlainIx b):PE X (.Subscript a b pos) (tOp r ta tb):=by
 intro pins s σ H Q I h
 exact Subscript_ (binT ha hb I h fun v u s2 x y H2 I2 rx ry q=>hr a b pins s2 σ H2 x y v u Q I2 rx ry q (hs _ _))
def rIxL (K:W.Frag):R2:=fun x y H Q=>∃ p xs i v,x=.ref p∧y=.int i∧SqL K H p xs∧atI xs i=some v∧Q v H
def rIxT (K:W.Frag):R2:=fun x y H Q=>∃ p xs i v,x=.ref p∧y=.int i∧SqT K H p xs∧atI xs i=some v∧Q v H
theorem ix_list:IxR X (rIxL X.K):=by
 intro value slice pins s σ H x y v u Q I rx ry h hs
 obtain ⟨p,xs,i,z,rfl,rfl,hq,he,q⟩:=h
 cases rx
 obtain ⟨t,rfl⟩:=ry
 obtain ⟨its,r,pl,hz⟩:=I.list hq
 obtain ⟨j,h1,h2,h3,h4,h5⟩:=atI_get he
 obtain ⟨w,ew,rw'⟩:=r.get h2
 have hl:=r.length
 have hn:=line63
 have fin:EP X pins σ Q w s:=⟨z,H,I,rw',q⟩
 by_cases h0:0≤i
 ·have hj:i.toNat=j:=by
   rw [seqIndex_of h0 h5] at h1
   exact Option.some.inj h1
  exact item_listR pl.isList h0 (by omega) (by rw [hj]; simpa using ew) fin hs
 ·have hj:(i + (its.toArray.size:Int)).toNat=j:=by
   rw [seqIndex_neg (by omega) h4] at h1
   rw [List.size_toArray,← hl]
   exact Option.some.inj h1
  exact subscriptTail_builtinR (x:=w) pl.isList.typeIs slot_list_getitem.lookup
   (wpAny_getItem_list_neg (Q:=fun r s'=>r=w∧EP X pins σ Q r s') pl.isList (by omega) (by rw [List.size_toArray] <;> omega) (by omega) (by rw [hj]; simpa using ew) ⟨rfl,fin⟩) hs
theorem ix_tup:IxR X (rIxT X.K):=by
 intro value slice pins s σ H x y v u Q I rx ry h hs
 obtain ⟨p,xs,i,z,rfl,rfl,hq,he,q⟩:=h
 cases rx
 obtain ⟨t,rfl⟩:=ry
 obtain ⟨its,r,pl,hz⟩:=I.tuple hq
 obtain ⟨j,h1,h2,h3,h4,h5⟩:=atI_get he
 obtain ⟨w,ew,rw'⟩:=r.get h2
 have hl:=r.length
 have hn:=line63
 have fin:EP X pins σ Q w s:=⟨z,H,I,rw',q⟩
 exact subscriptTail_builtinR (x:=w) pl.typeIs slot_tuple_getitem.lookup
  (getItem_tuple (j:=j) (Q:=fun r s'=>r=w∧EP X pins σ Q r s') pl (by omega) (by omega) (by rw [List.size_toArray,← hl]; exact h1) (by simpa using ew) ⟨rfl,fin⟩) hs
theorem mapSeq_set (its:List Value) (n j:Nat) (u:Value):Obj.mapSeq (·.setIfInBounds j u) { cls:=.type "list",data:=.seq its.toArray n }={ cls:=.type "list",data:=.seq (its.set j u).toArray n }:=by
 simp [Obj.mapSeq]
theorem Inv.lst {pins:List (Addr × Obj)} {σ:St} {H:Hp} {s:Shared} {p:Addr} {xs:List V} (I:Inv X pins σ H s) (h:H p=some (.lst xs)) :
  ∃ (its:List Value) (n:Nat),Vals xs its∧s.heap.get? p=some { cls:=.type "list",data:=.seq its.toArray n }∧xs.length≤sizeLine:=by
 obtain ⟨z,its,n,r,e⟩:=I.hok p _ h
 exact ⟨its,n,r,e,z⟩
theorem Inv.lstUpd {pins:List (Addr × Obj)} {σ:St} {H:Hp} {s:Shared} {p:Addr} {xs ys:List V} {its its':List Value} {n n':Nat} {f:Obj→Obj} (I:Inv X pins σ H s) (h:H p=some (.lst xs))
  (ho:s.heap.get? p=some { cls:=.type "list",data:=.seq its.toArray n }) (hf:f { cls:=.type "list",data:=.seq its.toArray n }={ cls:=.type "list",data:=.seq its'.toArray n' }) (r:Vals ys its') (hz:ys.length≤sizeLine) (t:Nat) :
  Inv X pins σ (upd H p (.lst ys)) { s with heap:=s.heap.update p f,toks:=t }:=by
 have e:(s.heap.update p f).get? p=some { cls:=.type "list",data:=.seq its'.toArray n' }:=by
  rw [Heap.get?_update_self f ho (by rw [hf] <;> rfl),hf]
 refine I.write (x:=p) (e:=p) (by rw [h]; trivial) (.inl rfl) (fun b u hb q=>(Heap.get?_update_other _ _ (Ne.symm hb)).trans q) ⟨_,e⟩ ?_
 exact ⟨hz,its',n',r,e⟩
def rSetL:V→V→V→Hp→(Hp→Prop)→Prop:=fun o i v H Q=>∃ p xs k j,o=.ref p∧i=.int k∧H p=some (.lst xs)∧ixN xs.length k=some j∧Q (upd H p (.lst (xs.set j v)))
theorem set_list:PSet X rSetL:=by
 intro pins s σ H o i v ov iv u Q I ro ri rv h
 obtain ⟨p,xs,k,j,rfl,rfl,hp,hj,q⟩:=h
 cases ro
 obtain ⟨t,rfl⟩:=ri
 obtain ⟨its,n,r,ho,hz⟩:=I.lst hp
 obtain ⟨h1,h2,h3,h4⟩:=ixN_seq hj
 have hl:=r.length
 have hn:=line63
 have I':Inv X pins σ (upd H p (.lst (xs.set j v))) { s with heap:=s.heap.update p (Obj.mapSeq (·.setIfInBounds j u)) } :=
  I.lstUpd hp ho (mapSeq_set its n j u) (r.set rv j) (by rw [List.length_set]; exact hz) s.toks
 by_cases h0:0≤k
 ·have hk:k.toNat=j:=by
   rw [seqIndex_of h0 h4] at h1
   exact Option.some.inj h1
  exact W.ki_setAt ho h0 (by omega) (by rw [List.size_toArray,← hl]; exact h4) (by rw [hk]; exact ⟨_,I',q⟩)
 ·have hk:(k + (its.toArray.size:Int)).toNat=j:=by
   rw [seqIndex_neg (by omega) h3] at h1
   rw [List.size_toArray,← hl]
   exact Option.some.inj h1
  exact W.ki_setBack ho (by omega) (by rw [List.size_toArray,← hl]; exact h3) (by omega) (by rw [hk]; exact ⟨_,I',q⟩)
def flatV:V→Bool
 | .non=>true
 | .bl _=>true
 | .int _=>true
 | .str _=>true
 | _=>false
def eqV:V→V→Bool
 | .non,.non=>true
 | .bl a,.bl b=>a == b
 | .bl a,.int b=>(if a then 1 else 0) == b
 | .int a,.bl b=>a == (if b then 1 else 0)
 | .int a,.int b=>a == b
 | .str a,.str b=>a == b
 | _,_=>false
theorem eqAt_V {A:Around} {s:Shared} {y x:V} {u v:Value} (ry:RelV y u) (rx:RelV x v) (fy:flatV y=true) (fx:flatV x=true):SeqAt.EqAt A s u v (eqV y x):=by
 cases y with
 | non =>
  cases ry
  cases x with
  | non=>cases rx; exact SeqAt.EqAt.same _
  | bl b=>cases rx; exact SeqAt.EqAt.none_bool b
  | int b=>obtain ⟨t,rfl⟩:=rx; exact SeqAt.EqAt.none_int b t
  | str b=>obtain ⟨t,rfl⟩:=rx; exact SeqAt.EqAt.none_str b t
  | _=>exact absurd (show false=true from fx) Bool.false_ne_true
 | bl a =>
  cases ry
  cases x with
  | non=>cases rx; exact SeqAt.EqAt.bool_none a
  | bl b=>cases rx; exact SeqAt.EqAt.bool_bool a b
  | int b=>obtain ⟨t,rfl⟩:=rx; exact SeqAt.EqAt.bool_int a b t
  | str b=>obtain ⟨t,rfl⟩:=rx; exact SeqAt.EqAt.bool_str a b t
  | _=>exact absurd (show false=true from fx) Bool.false_ne_true
 | int a =>
  obtain ⟨t',rfl⟩:=ry
  cases x with
  | non=>cases rx; exact SeqAt.EqAt.int_none a t'
  | bl b=>cases rx; exact SeqAt.EqAt.int_bool a t' b
  | int b=>obtain ⟨t,rfl⟩:=rx; exact SeqAt.EqAt.int_int a t' b t
  | str b=>obtain ⟨t,rfl⟩:=rx; exact SeqAt.EqAt.int_str a t' b t
  | _=>exact absurd (show false=true from fx) Bool.false_ne_true
 | str a =>
  obtain ⟨t',rfl⟩:=ry
  cases x with
  | non=>cases rx; exact SeqAt.EqAt.str_none a t'
  | bl b=>cases rx; exact SeqAt.EqAt.str_bool a t' b
  | int b=>obtain ⟨t,rfl⟩:=rx; exact SeqAt.EqAt.str_int a t' b t
  | str b=>obtain ⟨t,rfl⟩:=rx; exact SeqAt.EqAt.str_str a t' b t
  | _=>exact absurd (show false=true from fx) Bool.false_ne_true
 | _=>exact absurd (show false=true from fy) Bool.false_ne_true
theorem call_len_seq:CallR X (.builtin "len") (fun xs H Q=>∃ p ys,xs=[.ref p]∧(SqL X.K H p ys∨SqT X.K H p ys)∧Q (.int ys.length) H):=by
 intro pins s σ H xs us Q I r h
 obtain ⟨p,ys,rfl,hq,q⟩:=h
 obtain ⟨u,rfl,rx⟩:=vals1 r
 cases rx
 have hn:=line63
 rcases hq with hq | hq
 ·obtain ⟨its,r',pl,hz⟩:=I.list hq
  have hlen:=r'.length
  exact Calls.call_len_list pl.isList (by simp only [List.size_toArray] <;> omega) ⟨.int ys.length,H,I.tok _,⟨s.toks + 1,by rw [List.size_toArray,hlen]⟩,q⟩
 ·obtain ⟨its,r',pl,hz⟩:=I.tuple hq
  have hlen:=r'.length
  exact len_tuple pl (by simp only [List.size_toArray] <;> omega) ⟨.int ys.length,H,I.tok _,⟨s.toks + 1,by rw [List.size_toArray,hlen]⟩,q⟩
theorem call_list_of:CallR X (.type "list") (fun xs H Q=>∃ p ys,xs=[.ref p]∧(SqL X.K H p ys∨SqT X.K H p ys)∧∀ l,H l=none→Q (.ref l) (upd H l (.lst ys))):=by
 intro pins s σ H xs us Q I r h
 obtain ⟨p,ys,rfl,hq,q⟩:=h
 obtain ⟨u,rfl,rx⟩:=vals1 r
 cases rx
 have fin:∀ (its:List Value),Vals ys its→ys.length≤sizeLine→∀ (h':Heap) (c':Nat),(∀ b o',s.heap.get? b=some o'→h'.get? b=some o') →
   h'.get? s.heap.objs.size=some { cls:=.type "list",dict:=none,data:=.seq its.toArray c',slots:=#[] }→EP X pins σ Q (.ref s.heap.objs.size) { s with heap:=h' }:=fun its r' hz h' c' kp e =>
  ⟨.ref s.heap.objs.size,_,I.laid (t':=s.toks) kp (Nat.le_refl _) (show ObjOk X.prog X.w _ h' _ (.lst ys) from ⟨hz,its,c',r',e⟩),rfl,q _ (I.hok.fresh (Nat.le_refl _))⟩
 rcases hq with hq | hq
 ·obtain ⟨its,r',pl,hz⟩:=I.list hq
  have hlen:=r'.length
  obtain ⟨o,ho,hc,n,hd⟩:=pl.isList
  exact call_list_seq p (.inl rfl) ho hc hd (fun h' c' kp e=>fin its r' hz h' c' kp e) (by simp only [List.size_toArray] <;> omega)
 ·obtain ⟨its,r',pl,hz⟩:=I.tuple hq
  have hlen:=r'.length
  obtain ⟨o,ho,hc,n,hd⟩:=pl
  exact call_list_seq p (.inr rfl) ho hc hd (fun h' c' kp e=>fin its r' hz h' c' kp e) (by simp only [List.size_toArray] <;> omega)
theorem call_tuple_of:CallR X (.type "tuple") (fun xs H Q=>∃ p ys,xs=[.ref p]∧((SqL X.K H p ys∧∀ l,H l=none→Q (.ref l) (upd H l (.tup ys)))∨(SqT X.K H p ys∧Q (.ref p) H))):=by
 intro pins s σ H xs us Q I r h
 obtain ⟨p,ys,rfl,h⟩:=h
 obtain ⟨u,rfl,rx⟩:=vals1 r
 cases rx
 rcases h with ⟨hq,q⟩ | ⟨hq,q⟩
 ·obtain ⟨its,r',pl,hz⟩:=I.list hq
  have hlen:=r'.length
  refine call_tuple_list pl.isList (fun h' kp=>?_) (by simp only [List.size_toArray] <;> omega)
  have I1:Inv X pins σ H { s with heap:=h' }:=I.kept (t':=s.toks) kp
  have I2:Inv X pins σ (upd H h'.objs.size (.tup ys)) { s with heap:=h'.push { cls:=.type "tuple",data:=.seq its.toArray } } :=
   I1.laid (t':=s.toks) (fun b o e=>Heap.get?_push_of_some _ e) (Nat.le_refl _) (show ObjOk X.prog X.w _ _ _ (.tup ys) from ⟨hz,its,r',IsTup.new _ _⟩)
  exact ⟨.ref h'.objs.size,_,I2,rfl,q _ (I1.hok.fresh (Nat.le_refl _))⟩
 ·obtain ⟨its,r',pl,hz⟩:=I.tuple hq
  exact call_tuple_same pl ⟨.ref p,H,I,rfl,q⟩
def tyV (K:W.Frag) (T:String) (x:V) (H:Hp):Prop:=match x with
 | .str _=>T="str"
 | .int _=>T="int"
 | .ref p=>(T="list"∧∃ xs,SqL K H p xs)∨(T="tuple"∧∃ o,K.lookup p=some o∧o.cls=.type "tuple"∧o.dict=none) ∨
   (T="dict"∧((∃ kvs,H p=some (.dK kvs))∨∃ kvs,H p=some (.dT kvs)))∨(T="set"∧∃ S n,H p=some (.set S n))
 | _=>False
theorem tyV_is {pins:List (Addr × Obj)} {σ:St} {H:Hp} {s:Shared} {T:String} {x:V} {v:Value} (I:Inv X pins σ H s) (r:RelV x v) (ty:tyV X.K T x H) :
  s.TypeIs v T∧∀ a,v=.ref a→∃ ob,s.heap.get? a=some ob∧ob.dict=none:=by
 cases x with
 | str z =>
  obtain ⟨t,rfl⟩:=r
  cases (show T="str" from ty)
  exact ⟨typeIs_str s z t,fun _ e=>nomatch e⟩
 | int i =>
  obtain ⟨t,rfl⟩:=r
  cases (show T="int" from ty)
  exact ⟨typeIs_int s i t,fun _ e=>nomatch e⟩
 | ref p =>
  cases r
  rcases ty with ⟨rfl,xs,hq⟩ | ⟨rfl,o,hk,hc,hd⟩ | ⟨rfl,hk⟩ | ⟨rfl,S,n,hk⟩
  ·obtain ⟨its,_,pl,_⟩:=I.list hq
   refine ⟨pl.isList.typeIs,fun a e=>?_⟩
   cases e
   obtain ⟨o,n,e,c,hd,_⟩:=pl
   exact ⟨o,e,hd⟩
  ·refine ⟨⟨o,I.kIn p o hk,hc⟩,fun a e=>?_⟩
   cases e
   exact ⟨o,I.kIn _ o hk,hd⟩
  ·have z:∃ o,s.heap.get? p=some o∧o.ExactDict:=by
    rcases hk with ⟨kvs,hk⟩ | ⟨kvs,hk⟩
    ·obtain ⟨_,_,_,_,o,_,_,e,ex,_⟩:=I.hok p _ hk
     exact ⟨o,e,ex⟩
    ·obtain ⟨_,_,_,_,o,_,_,e,ex,_⟩:=I.hok p _ hk
     exact ⟨o,e,ex⟩
   obtain ⟨o,e,ex⟩:=z
   refine ⟨⟨o,e,ex.1⟩,fun a e2=>?_⟩
   cases e2
   exact ⟨o,e,ex.2.1⟩
  ·obtain ⟨o,_,_,_,e,ex,_⟩:=I.hok p _ hk
   refine ⟨⟨o,e,ex.1⟩,fun a e2=>?_⟩
   cases e2
   exact ⟨o,e,ex.2.1⟩
 | _=>exact False.elim ty
def tBM (K:W.Frag) (T:String) (r:V→List V→Hp→VK→Prop) (to:TE) (t:TA):TE:=fun σ H Q=>to σ H fun x H1=>tyV K T x H1∧t σ H1 fun xs H2=>r x xs H2 Q
variable {o e : Expr} {es : List Expr} {to : TE} {t : TA} {name : Str} {apos cpos : Pos} {T id : String} {r : V → List V → Hp → VK → Prop}
theorem pe_bm (pa:PlainAttrs T) (slot:Slot T name id) (hty:typeOf (.builtin id)=pure (.type "method_descriptor")) (hm:MtR X id r) (ho:PE X o to) (ha:PA X (e :: es) t)
  (hbase:attributeBase o name X.env (eval o X.env)=eval o X.env:=by rfl)
  (hfew:((backTo cpos (starEach (e :: es) X.env)).all (fun x=>!x.1) && (backToKw cpos (keywordEach [] X.env)).all (fun x=>x.1.isSome)
   && decide ((e :: es).length + ([]:List Keyword).length + (if ([]:List Keyword).isEmpty then 0 else 1) < 30))=true:=by rfl)
  (hline:(apos.endLine == cpos.line)=true:=by rfl) (hs:starEach (e :: es) X.env=(false,eval e X.env) :: starEach es X.env:=by rfl) (hplain:(backTo cpos (starEach es X.env)).any (·.1)=false:=by rfl) :
  PE X (.Call (.Attribute o name apos) (e :: es) [] cpos) (tBM X.K T r to t):=by
 intro pins s σ H Q I h
 refine wpAny_Call_method_late hbase hfew hline rfl (thn (ho pins s σ H _ I h) fun v s1 ⟨x,H1,I1,r1,ty,q1⟩=>?_)
 obtain ⟨h1,h2⟩:=tyV_is I1 r1 ty
 refine ⟨T,id,pa,slot,hty,h1,h2,?_⟩
 have hA:=ha cpos pins s1 σ H1 _ I1 q1
 rw [hs] at hA ⊢
 refine Calls.callWith_builtin (by show (false || (backTo cpos (starEach es X.env)).any (·.1))=false; rw [hplain] <;> rfl) (Calls.evalArgs_plain ?_)
 exact thn hA fun us s2 ⟨vs,H2,I2,r2,q2⟩=>hm pins s2 σ H2 x vs v us Q I2 r1 r2 q2
/- xs.append(e),list.index on a module's tuple .. are MtR facts of 06m -/
end
end L2
namespace L2
open PySem PySem.Spec PyProof.Rows
def MtM (X:Cx) (id:String) (r:V→List V→Hp→VK→Prop):Prop :=
 ∀ (pins:List (Addr × Obj)) (s:Shared) (σ:St) (H:Hp) (x:V) (xs:List V) (v:Value) (us:List Value) (Q:VK),Inv X pins σ H s→RelV x v→Vals xs us→r x xs H Q →
  wpAny (model X.prog X.w) X.A (call (.builtin id) (v :: us)) (EP X pins σ Q) X.xe s
theorem Vals.one:∀ {x:V} {us:List Value},Vals [x] us→∃ u,us=[u]∧RelV x u
 | _,_,.cons r .nil=>⟨_,rfl,r⟩
theorem Vals.two:∀ {x y:V} {us:List Value},Vals [x,y] us→∃ u v,us=[u,v]∧RelV x u∧RelV y v
 | _,_,_,.cons r (.cons q .nil)=>⟨_,_,rfl,r,q⟩
theorem Vals.zero:∀ {us:List Value},Vals [] us→us=[]
 | _,.nil=>rfl
theorem Vals.dropLast {xs:List V} {us:List Value} (h:Vals xs us):Vals xs.dropLast us.dropLast:=by
 induction h with
 | nil=>exact .nil
 | cons r t ih =>
  cases t with
  | nil=>exact .nil
  | cons q t'=>exact .cons r ih
theorem Vals.rep {xs:List V} {us:List Value} (h:Vals xs us):∀ k:Nat,Vals (List.replicate k xs).flatten (List.replicate k us).flatten
 | 0=>.nil
 | k + 1=>by
  rw [List.replicate_succ,List.replicate_succ,List.flatten_cons,List.flatten_cons]
  exact Vals.append h (Vals.rep h k)
theorem foldl_rep (its:List Value):∀ (k:Nat) (acc:List Value),
  List.foldl (fun x1 x2=>x1 ++ x2) acc.toArray (List.replicate k its.toArray)=(acc ++ (List.replicate k its).flatten).toArray
 | 0,acc=>by simp
 | k + 1,acc=>by
  have e:acc.toArray ++ its.toArray=(acc ++ its).toArray:=by simp
  have e2:(acc ++ its) ++ (List.replicate k its).flatten=acc ++ (List.replicate (k + 1) its).flatten:=by
   rw [List.replicate_succ,List.flatten_cons,List.append_assoc]
  rw [← e2,← foldl_rep its k (acc ++ its),← e,List.replicate_succ,List.foldl_cons]
section
variable {X : Cx} {pins : List (Addr × Obj)} {σ : St} {H : Hp} {s : Shared} {l b : Addr} {xs ys zs : List V}
theorem Inv.lset {its its':List Value} {n:Nat} {f:Array Value→Array Value} {t':Nat} (I:Inv X pins σ H s) (hH:H l=some (.lst xs))
  (e:s.heap.get? l=some { cls:=.type "list",data:=.seq its.toArray n }) (hf:f its.toArray=its'.toArray) (hv:Vals ys its') (hz:ys.length≤sizeLine) :
  Inv X pins σ (upd H l (.lst ys)) { s with heap:=s.heap.update l (Obj.mapSeq f),toks:=t' }:=by
 have q:=PySem.IsL.update e f
 rw [hf] at q
 refine I.write (x:=l) (e:=l) (by rw [hH]; exact trivial) (.inl rfl) (fun b' u hb hu=>(Heap.get?_update_other s.heap (Obj.mapSeq f) (Ne.symm hb)).trans hu) ⟨_,q⟩ ?_
 exact ⟨hz,its',_,hv,q⟩
theorem Inv.lnew {its:List Value} {t':Nat} (I:Inv X pins σ H s) (hv:Vals ys its) (hz:ys.length≤sizeLine) :
  Inv X pins σ (upd H s.heap.objs.size (.lst ys)) { s with heap:=s.heap.push { cls:=.type "list",data:=.seq its.toArray },toks:=t' } :=
 I.laid (fun _ _ q=>Heap.get?_push_of_some _ q) (Nat.le_refl _) ⟨hz,its,0,hv,Heap.get?_push_size _ rfl⟩
theorem Inv.fresh (I:Inv X pins σ H s):H s.heap.objs.size=none:=I.hok.fresh (Nat.le_refl _)
theorem Inv.lstM (I:Inv X pins σ H s) (hH:H l=some (.lst xs)):xs.length≤sizeLine∧∃ (its:List Value) (n:Nat),Vals xs its∧xs.length=its.length∧s.heap.get? l=some { cls:=.type "list",data:=.seq its.toArray n }:=by
 obtain ⟨z,its,n,r,e⟩:=I.hok l _ hH
 exact ⟨z,its,n,r,r.length,e⟩
theorem notLongL {n:Nat} (h:n≤sizeLine):Builtin.List.listTooLong n=false:=by
 unfold Builtin.List.listTooLong
 exact decide_eq_false (by omega)
end
section
variable {X : Cx}
def rAppend:V→List V→Hp→VK→Prop:=fun x vs H Q=>∃ l xs y,x=.ref l∧vs=[y]∧H l=some (.lst xs)∧xs.length < sizeLine∧Q .non (upd H l (.lst (xs ++ [y])))
theorem mt_append:MtM X "list.append" rAppend:=by
 intro pins s σ H x vs v us Q I rx rv h
 obtain ⟨l,xs,y,rfl,rfl,hH,hz,q⟩:=h
 cases rx
 obtain ⟨u,rfl,ru⟩:=rv.one
 obtain ⟨z,its,n,r,hl,e⟩:=I.lstM hH
 refine call_meets F.slot_list_append ⟨_,e,rfl⟩ F.entry_list_append (F.args_list_append_2 _ _) (PySem.list_append l its.toArray n u (by rw [List.size_toArray]; omega)) ⟨e,?_⟩
 refine ⟨.non,_,I.lset (its':=its ++ [u]) hH e (by simp) (r.append (.cons ru .nil)) ?_,rfl,q⟩
 rw [List.length_append,List.length_singleton]
 omega
def rCat:R2:=fun x y H Q=>∃ l b xs zs,x=.ref l∧y=.ref b∧H l=some (.lst xs)∧H b=some (.lst zs)∧xs.length + zs.length≤sizeLine∧∀ p,H p=none→Q (.ref p) (upd H p (.lst (xs ++ zs)))
theorem op_cat:OpR X (binaryOp .Add) rCat:=by
 intro pins s σ H x y v u Q I rx ry h
 obtain ⟨l,b,xs,zs,rfl,rfl,hH,hB,hz,q⟩:=h
 cases rx
 cases ry
 obtain ⟨z,its,n,r,hl,e⟩:=I.lstM hH
 obtain ⟨z2,its2,n2,r2,hl2,e2⟩:=I.lstM hB
 refine PySem.P.add_list e e2 ?_ (by rw [List.size_toArray,List.size_toArray]; omega)
 have ea:its.toArray ++ its2.toArray=(its ++ its2).toArray:=by simp
 rw [ea]
 exact ⟨.ref _,_,I.lnew (t':=s.toks) (r.append r2) (by rw [List.length_append]; omega),rfl,q _ I.fresh⟩
def rRep:R2:=fun x y H Q=>∃ l k xs,x=.ref l∧y=.int k∧H l=some (.lst xs)∧-(2 ^ 63)≤k∧k < 2 ^ 63∧xs.length * k.toNat≤sizeLine ∧
 ∀ p,H p=none→Q (.ref p) (upd H p (.lst (List.replicate k.toNat xs).flatten))
theorem len_rep {α:Type} (xs:List α) (k:Nat):(List.replicate k xs).flatten.length=k * xs.length:=by
 induction k with
 | zero=>simp
 | succ k ih=>rw [List.replicate_succ,List.flatten_cons,List.length_append,ih,Nat.succ_mul,Nat.add_comm]
theorem op_rep:OpR X (binaryOp .Mult) rRep:=by
 intro pins s σ H x y v u Q I rx ry h
 obtain ⟨l,k,xs,rfl,rfl,hH,h1,h2,hz,q⟩:=h
 cases rx
 obtain ⟨t,rfl⟩:=ry
 obtain ⟨z,its,n,r,hl,e⟩:=I.lstM hH
 have hlen:its.toArray.size * k.toNat≤sizeLine:=by rw [List.size_toArray,← hl]; exact hz
 have hcap:¬ its.toArray.size * k.toNat > (2 ^ 63 - 1) / 8:=by
  have:(sizeLine:Nat)≤(2 ^ 63 - 1) / 8:=by decide
  omega
 have hfit:¬ (!Builtin.List.listFitsIndex k)=true:=by
  rw [fitsIndex_both h1 h2]
  exact Bool.false_ne_true
 have hlong:¬ Builtin.List.listTooLong (its.toArray.size * k.toNat)=true:=by
  rw [notLongL hlen]
  exact Bool.false_ne_true
 have hnew:List.foldl (fun x1 x2=>x1 ++ x2) #[] (List.replicate (if its.toArray.isEmpty=true then 0 else k.toNat) its.toArray)=(List.replicate k.toNat its).flatten.toArray:=by
  have f0:∀ m:Nat,List.foldl (fun x1 x2=>x1 ++ x2) #[] (List.replicate m its.toArray)=(List.replicate m its).flatten.toArray:=fun m=>by
   have:=foldl_rep its m []
   rw [List.nil_append] at this
   exact this
  rw [f0]
  cases its with
  | nil=>simp
  | cons a r'=>rw [if_neg (by simp)]
 refine wpAny_binaryOp_repeat_ref (T:="list") (U:="int") (by decide) ⟨_,e,rfl⟩ (fun s'=>typeIs_int s' k t) noFill_list_mul F.fills_int_mul F.slot_int_rmul repeat_list F.slot_int_index.lookup
  (call_meets F.slot_int_rmul (typeIs_int s k t) F.entry_int_rmul (F.args_int_rmul_2 _ _) (int___rmul___int_list k t l its.toArray n)
   ⟨e,rfl,⟨_,e,rfl⟩,call_meets F.slot_list_mul ⟨_,e,rfl⟩ F.entry_list_mul (F.args_list_mul_2 _ _) (AutoListH.list___mul___list_int_3 l its.toArray n k t hfit hcap hlong) ⟨e,?_⟩⟩)
 rw [hnew]
 exact ⟨.ref _,_,I.lnew (t':=s.toks) (r.rep k.toNat) (by rw [len_rep,Nat.mul_comm]; exact hz),rfl,q _ I.fresh⟩
end
section
variable {prog : Program} {w : World} {A : Around} {E : Value → Shared → Prop} {s : Shared}
end
section
variable {X : Cx}
end
end L2
namespace Att
open PySem PySem.W PySem.Calls PyProof.Rows
theorem ints_of_wellAll {P:Params} {h:Heap}:∀ (ns:List Int) (vs:List Value),WellAll P h vs (ns.map WData.int)→IntsAre vs ns:=by
 intro ns
 induction ns with
 | nil =>
  intro vs w
  rw [List.map_nil] at w
  cases w
  exact .nil
 | cons n ns ih =>
  intro vs w
  rw [List.map_cons] at w
  cases w with
  | cons a b =>
   cases a
   exact .cons _ _ (ih _ b)
theorem script_of {l:OpenLaw} {n:Nat} (hn:l.most=some n) {P:Params} {h:Heap} {args:List WData} {vals:List Value}
  (hpre:l.row.toRowW.claim.pre args=true) (hwl:WellAll P h vals args) :
  ∃ a vs ns,vals=[Value.ref a]∧args=[WData.list (ns.map WData.int)]∧h.get? a=some { cls:=.type "list",data:=.seq vs.toArray }∧IntsAre vs ns∧ns.length≤n:=by
 have hsh:WShape.hasAll [] args [.list .int]=true:=(pre_splitW hpre).1
 have hc:l.pre.holds [] { args:=args }=true:=(pre_splitW hpre).2
 obtain ⟨d,r,rfl,h1,h2⟩:=hasAllW_cons hsh
 obtain rfl:=hasAllW_nil h2
 obtain ⟨xs,rfl,h3⟩:=hasW_list h1
 obtain ⟨ns,rfl⟩:=items_int h3
 have hlen:ns.length≤n:=by
  unfold OpenLaw.pre at hc
  have h4:(WTm.not (.lt (.lit (.int (n:Int))) (.len (.arg 0)))).holds [] { args:=[.list (ns.map .int)] }=true:=by
   have h4:=(holds_andW hc).1
   rw [hn] at h4
   exact h4
  have h5:=condW_of h4 (w_not (w_lt w_lit (w_len_list (w_arg rfl))))
  rw [List.length_map] at h5
  refine Nat.le_of_not_lt fun q=>?_
  have q':(n:Int) < ((ns.length:Nat):Int):=by omega
  first
   | (rw [decide_eq_true q'] at h5; exact absurd h5 (by decide))
   | (simp at h5; omega)
 cases hwl with
 | cons w1 w2 =>
  cases w2
  cases w1 with
  | list ho hall=>exact ⟨_,_,ns,rfl,rfl,ho,ints_of_wellAll ns _ hall,hlen⟩
theorem post_true (l:OpenLaw) (args:List WData):l.row.toRowW.claim.post args (.bool true) args=true :=
 postW_of (r:=l.row.toRowW) (X:=(true == true))
  (show WShape.has [] (.bool true) .bool=true by first | rfl | decide | simp [WShape.has,WShape.arms,WShape.armsAll])
  (show (WTm.eq .res (.lit (.bool true))).value [] { args:=args,res:=some (.bool true),after:=args }=some (.bool (true == true)) from w_eq_bool (w_res rfl) w_lit) rfl
theorem attach_call {l:OpenLaw} {n:Nat} {q:Program} {loose:List Str} {XP:(Str→Option Value)→Heap→Prop} {YP:World→Heap→Prop} {d:DefRec}
  (hn:l.most=some n) (hdf:d.params.defaults=[])
  (call:∀ (w:World) (s₀ s₁:Shared) (mg mb:Str→Option Value) (fa:Addr) (o:Obj) (pm cd doc:Value) (a:Addr) (vs:List Value) (ns:List Int),
   Ground q loose [] XP w s₀ mg mb s₁.heap→YP w s₁.heap →
   s₁.heap.get? fa=some o→o.data=.func (docDef d.name d.params d.body d.scope pm cd doc)→s₁.heap.CodeRec cd d.name→mg d.name=some (.ref fa) →
   s₁.heap.get? a=some { cls:=.type "list",data:=.seq vs.toArray }→IntsAre vs ns→ns.length≤n→s₁.gens=#[] →
   codeAny (model l.prog w) callerA (.call (.ref fa) ⟨[.ref a],[]⟩) (fun r s'=>r=.ok (.ret (.bool true))∧OldK s₁.heap s'.heap∧s'.os=s₁.os∧AllBare s'.gens) s₁) :
  WalkO q loose XP YP l.row.toRowW d [] (fun f vs=>PySem.call f vs):=by
 intro w s₀ s₁ mg mb G Y fa o pm cd doc dV kV ho hd hcd hD hmg hg args vals as hpre hlay hrd hwl hlo
 obtain rfl:dV=.none:=Dflts.none hD hdf
 obtain rfl:kV=.none:=Dflts.noKw hD
 obtain ⟨a,vs,ns,rfl,rfl,hobj,hints,hlen⟩:=script_of hn hpre hwl
 refine enter_call (codeAny_mono (call w s₀ s₁ mg mb fa o pm cd doc a vs ns G Y ho (fd_plain hd) hcd hmg hobj hints hlen hg) fun r s' hq=>?_)
 obtain ⟨rfl,h2,h3,h4⟩:=hq
 exact ⟨.inl ⟨.bool true,.bool true,[],rfl,fun _=>rfl,.bool true,post_true l _,fun _=>⟨List.Pairwise.nil,fun _ hm=>(nomatch hm)⟩⟩,h2,h3,h4⟩
section
variable {prog : Program} {w : World} {A : Around} {E : Value → Shared → Prop} {s : Shared} {K : Frag}
end
end Att
namespace L2
open PySem PySem.Spec PyProof.Rows
theorem vals_ints:∀ {vs:List Value} {ns:List Int},IntsAre vs ns→Vals (ns.map V.int) vs
 | _,_,.nil=>.nil
 | _,_,.cons n t h=>.cons ⟨t,rfl⟩ (vals_ints h)
def Only (H:Hp):Prop:=∀ b,H b=none∨∃ o xs,H b=some (.frz o (.lst xs))
theorem law_call {P:Program} {w:World} {K:W.Frag} {mg mb:Str→Option Value} {CX:CXT} {k:Nat} {fa a:Addr} {fd:FuncData} {x:Str} {sp:Sp} {s₁:Shared} {vs:List Value} {ns:List Int}
  (KX:K.In s₁.heap) (hns:s₁.heap.Ns mainGlobals mg) (hb:s₁.heap.Ns builtinsNs mb) (hbb:∀ x:Str,x≠"__name__"→mb x=bootBuiltins x) (hlim:s₁.heap.NoLimit) (hseer:s₁.heap.NoSeer) (hg:s₁.gens=#[])
  (ha:s₁.heap.get? a=some { cls:=.type "list",data:=.seq vs.toArray }) (hi:IntsAre vs ns) (hl:ns.length≤sizeLine) (hr:Room k callerA)
  (F:∀ base:Heap,K.In base→base.Ns mainGlobals mg→FnOk P w K mg base CX k fa fd [x] sp) (hbind:∀ (s:Shared) (u:Value),BindsTo s fd ⟨[u],[]⟩ [(x,u)])
  (hsp:∀ H:Hp,Only H→SqL K H a (ns.map V.int)→sp [.ref a] H (fun v _=>v=.bl true) fun _ _ _=>False)
  (hCX:∀ H e s',CX [] H s₁ (fun _ _ _=>False) e s'→False) :
  codeAny (model P w) callerA (.call (.ref fa) ⟨[.ref a],[]⟩) (fun r s'=>r=.ok (.ret (.bool true))∧OldK s₁.heap s'.heap∧s'.os=s₁.os∧AllBare s'.gens) s₁:=by
 have rv:=vals_ints hi
 have lenV:=hi.length
 have core:∀ H:Hp,Only H→SqL K H a (ns.map V.int)→HOk P w H s₁.heap→(∀ b,H b≠none→b=a)→(H a≠none→K.lookup a=none) →
   codeAny (model P w) callerA (.call (.ref fa) ⟨[.ref a],[]⟩) (fun r s'=>r=.ok (.ret (.bool true))∧OldK s₁.heap s'.heap∧s'.os=s₁.os∧AllBare s'.gens) s₁:=by
  intro H hO hS hok hA hK
  have base_of:∀ {b:Addr} {o:Obj},s₁.heap.get? b=some o→H b=none→(hidT s₁.heap H).get? b=some o:=fun e n=>hidT_get e n
  have noA:∀ {b:Addr} {o:Obj} {es:Array DictEntry} {ep:Nat},s₁.heap.get? b=some o→o.data=.dict es ep→H b=none:=fun {b o es ep} e d=>by
   cases q:H b with
   | none=>rfl
   | some u =>
    have e':b=a:=hA b (by rw [q]; simp)
    subst e'
    rw [ha] at e; cases e
    have d':Data.seq vs.toArray _=Data.dict es ep:=d
    cases d'
  have nsK:∀ {b:Addr} {m:Str→Option Value},s₁.heap.Ns b m→(hidT s₁.heap H).Ns b m:=fun {b m} ⟨o,es,ep,e,d,r⟩=>⟨o,es,ep,base_of e (noA e d),d,r⟩
  have hKb:K.In (hidT s₁.heap H):=fun b o e=>base_of (KX b o e) (by
   cases q:H b with
   | none=>rfl
   | some u =>
    have e':b=a:=hA b (by rw [q]; simp)
    subst e'
    rw [hK (by rw [q]; simp)] at e; cases e)
  have hmain:∃ mg bm ob,(hidT s₁.heap H).Ns mainGlobals mg∧mg "__builtins__"=some (.ref bm)∧(hidT s₁.heap H).get? bm=some ob∧ob.cls=.type "module"∧ob.dict=some builtinsNs:=by
   obtain ⟨mg',bm,ob,h1,h2,h3,h4,h5⟩:=hseer.main
   refine ⟨mg',bm,ob,nsK h1,h2,base_of h3 ?_,h4,h5⟩
   cases q:H bm with
   | none=>rfl
   | some u =>
    have e':bm=a:=hA bm (by rw [q]; simp)
    subst e'
    rw [ha] at h3
    cases h3
    have z:Value.type "list"=Value.type "module":=h4
    exact absurd z (by decide)
  have hM:Mod K mg (hidT s₁.heap H):=⟨hKb,nsK hns,⟨mb,nsK hb,hbb⟩,let ⟨mc,h1,h2⟩:=hlim; ⟨mc,nsK h1,h2⟩,⟨let ⟨mc,h1,h2⟩:=hseer.statics; ⟨mc,nsK h1,h2⟩,let ⟨mc,h1,h2⟩:=hseer.mods; ⟨mc,nsK h1,h2⟩,let ⟨mc,h1,h2⟩:=hseer.imp; ⟨mc,nsK h1,h2⟩,hmain⟩⟩
  have e0:Env0 P w K mg (hidT s₁.heap H) callerA [] s₁ H:=⟨rfl,hM,fun b o e=>of_hidT e,Nat.le_of_eq (hidT_size _ _),trivial,fun b hb=>absurd (show b∈([]:List Addr) from hb) (by simp),hok,.of_eq hg⟩
  refine codeAny_mono ((F _ hKb (nsK hns)).run callerA [] s₁ H ⟨[.ref a],[]⟩ [.ref a] [.ref a] _ _ hr e0 (hbind s₁ (.ref a)) (.cons rfl .nil) (hsp H hO hS)) fun r s' h=>?_
  cases r with
  | error e=>exact (hCX H e s' h).elim
  | ok fl =>
   cases fl with
   | next=>exact False.elim h
   | brk=>exact False.elim h
   | cont=>exact False.elim h
   | ret u =>
    obtain ⟨v,H',os,bare,un,hok',r',q⟩:=h
    have q':v=.bl true:=q
    subst q'
    obtain rfl:u=Value.bool true:=r'
    refine ⟨rfl,OldK.of_keep fun b o e=>?_,os,bare⟩
    cases q:H b with
    | none=>exact un.keep b o e q (by intro z; exact absurd (show b∈([]:List Addr) from z) (by simp)) (by simp)
    | some u =>
     rcases hO b with z | ⟨ob,xs,z⟩
     ·rw [q] at z; cases z
     ·have z2:=un.frzs b ob _ z
      obtain ⟨e1,_⟩:=hok b _ z
      obtain ⟨e2,_⟩:=hok' b _ z2
      rw [e] at e1; cases e1
      exact e2
 cases hk:K.lookup a with
 | some o =>
  have e:=KX a o hk
  rw [ha] at e
  cases e
  refine core (fun _=>none) (fun _=>.inl rfl) (.inr ⟨_,vs.toArray,_,hk,rfl,rfl,rfl,by rw [List.size_toArray,lenV]; exact hl,by simpa using rv⟩) (fun b u z=>by have z':(none:Option HO)=some u:=z; cases z') (fun b z=>absurd rfl z) fun z=>absurd rfl z
 | none =>
  refine core (fun b=>if b=a then some (.frz { cls:=.type "list",data:=.seq vs.toArray } (.lst (ns.map V.int))) else none) (fun b=>?_) (.inl (.inr ⟨{ cls:=.type "list",data:=.seq vs.toArray },if_pos rfl⟩)) (fun b u z=>?_) (fun b z=>?_) fun _=>hk
  ·by_cases hb:b=a
   ·exact .inr ⟨_,_,if_pos hb⟩
   ·exact .inl (if_neg hb)
  ·by_cases hb:b=a
   ·have z':=(if_pos hb).symm.trans z
    cases z'
    subst hb
    exact ⟨ha,by rw [List.length_map]; exact hl,vs,_,rv,ha⟩
   ·have z':=(if_neg hb).symm.trans z
    cases z'
  ·by_cases hb:b=a
   ·exact hb
   ·exact absurd (if_neg hb) z
end L2
namespace L2
open PySem PySem.Spec PyProof.Rows
abbrev KOf {K:W.Frag} {h:Heap} (_:K.In h):W.Frag:=K
theorem walk_of {l:PySem.W.OpenLaw} {n k:Nat} {q:Program} {loose:List Str} {XP:(Str→Option Value)→Heap→Prop} {YP:World→Heap→Prop} {d:DefRec} {K:Params→PySem.W.Frag} {CX:World→CXT} {sp:World→Sp} {x:Str}
  (hn:l.most=some n) (hn2:n≤sizeLine) (hdf:d.params.defaults=[]) (hr:Room k callerA)
  (hY:∀ (w:World) (h:Heap),YP w h→(K w.params).In h)
  (F:∀ (w:World) (mg:Str→Option Value) (fa:Addr) (h:Heap),(K w.params).In h→h.Ns mainGlobals mg→mg d.name=some (.ref fa) →
   ∃ fd:FuncData,(∀ (s:Shared) (u:Value),BindsTo s fd ⟨[u],[]⟩ [(x,u)]) ∧
    ∀ base:Heap,(K w.params).In base→base.Ns mainGlobals mg→FnOk l.prog w (K w.params) mg base (CX w) k fa fd [x] (sp w))
  (hsp:∀ (w:World) (H:Hp) (a:Addr) (ns:List Int),ns.length≤n→Only H→SqL (K w.params) H a (ns.map V.int)→sp w [.ref a] H (fun v _=>v=.bl true) fun _ _ _=>False)
  (hCX:∀ (w:World) (H:Hp) (s:Shared) (e:Value) (s':Shared),CX w [] H s (fun _ _ _=>False) e s'→False) (him:importsNone q=true) :
  PySem.W.WalkO q loose XP YP l.row.toRowW d [] (fun f vs=>PySem.call f vs):=by
 refine Att.attach_call hn hdf fun w s₀ s₁ mg mb fa o pm cd doc a vs ns G Y ho hd hcd hmg hobj hints hlen hg=>?_
 have KX:=hY w _ Y
 obtain ⟨fd,hb,hF⟩:=F w mg fa _ KX G.T.g hmg
 exact law_call KX G.T.g G.T.b G.T.builtins G.T.nolimit (G.T.seer him) hg hobj hints (Nat.le_trans hlen hn2) hr hF hb (fun H hO hS=>hsp w H a ns hlen hO hS) fun H e s'=>hCX w H s₁ e s'
end L2
/- THE LAST THEOREM (shape; LID, My.* are yours):
   My.Adr: a structure of the addresses that your layer names (classes, functions); My.Txt K t: a structure (Prop) of the equations over K;
   My.txt_mk : {K} {implicit addresses ..} (e1 : nsIn K mainGlobals "law" = some (some (.ref f))) (e2 : K.lookup f = some ⟨oc, od, .func (fnOf "law" "law" params body scope dV kV doc pm an cdv ct), sl⟩) (e3 : codeIn K cdv "law" = true) .. : ∃ t, My.Txt K t
set_option maxRecDepth 100000 in
set_option maxHeartbeats 0 in
theorem PySem.Challenge.cw_LID_holds : PySem.Challenge.rw_LID.Holds := by
  w_on; o_law; k_head; (case hw => w_witness2)
  k_fill
  refine L2.walk_of (l := PySem.Challenge.rw_LID) (n := 63) (k := 40) (x := "script") (CX := fun w => ..) (sp := fun _ => My.sp_law) rfl (by decide) rfl ⟨rfl, by decide, by decide⟩ (fun w h Y => PySem.W.kIn_of Y) ?F ?S ?C
  case F =>
    intro w mg fa h KX G hmg
    have T : ∃ t, My.Txt (L2.KOf KX) t := by
      dsimp only [L2.KOf]                          -- K must stand as «<heap const> w.params» for k_is
      refine' My.txt_mk ?e1 ?e2 ?e3 ..
      (case e1 => PySem.W.k_is)                    -- in the order: a name -> its address -> its object -> its parts
      (case e2 => PySem.W.k_is)
      ..
    obtain ⟨t, T⟩ := T
    have e0 := hmg.symm.trans (PySem.W.mg_of KX G T.law)
    cases e0                                       -- fa is the law's own address
    exact ⟨_, fun s u => .of_eq rfl, fun base kb nb => My.law_fn T kb nb⟩     -- if «.of_eq rfl» comes too early: refine' ⟨_, ?b, fun base kb nb => My.law_fn T kb nb⟩; exact fun s u => .of_eq rfl
  case S => exact fun w H a ns hl hO hS => ..
  case C => exact ..
(the tactic k_is has no namespace: write k_is) -/
namespace L2
open PySem PySem.Spec PyProof.Rows
def inClass (s:Stmt) (j:Nat):Stmt:=match s with
 | .ClassDef _ _ _ body _ _ _ _ _ _ _=>body.getD j (.Pass ⟨0,0,0,0⟩)
 | _=>.Pass ⟨0,0,0,0⟩
def defArgs (s:Stmt):Arguments:=match s with
 | .FunctionDef _ a _ _ _ _ _ _ _ _=>a
 | _=>{ posonlyargs:=[],args:=[],vararg:=none,kwonlyargs:=[],kw_defaults:=[],kwarg:=none,defaults:=[] }
def defBody (s:Stmt):List Stmt:=match s with
 | .FunctionDef _ _ b _ _ _ _ _ _ _=>b
 | _=>[]
def defScope (s:Stmt):Scope:=match s with
 | .FunctionDef _ _ _ _ _ _ sc _ _ _=>sc
 | _=>{ kind:=.function,names:=[],isGenerator:=false,isCoroutine:=false }
abbrev CX0:CXT:=fun _ _ _ _ _ _=>False
abbrev E0:XK:=fun _ _ _=>False
structure Fun (K:W.Frag) (x qual:Str) (st:Stmt) (f:Addr) (fd:FuncData):Prop where
 ex:∃ (oc:Value) (od:Option Addr) (kV doc pm:Value) (an:Option Addr) (cdv ct:Value) (osl:Array (Option Value)),
  fd=W.fnOf x qual (defArgs st) (defBody st) (defScope st) .none kV doc pm an cdv ct∧K.lookup f=some ⟨oc,od,.func fd,osl⟩∧W.codeIn K cdv qual=true
 kp:W.keepIn K (.ref f)=true
section
variable {P : Program} {w : World} {K : W.Frag} {mg : Str → Option Value} {base : Heap}
theorem Fun.binds {x qual:Str} {st:Stmt} {f:Addr} {fd:FuncData} {ps:List Str} (F:Fun K x qual st f fd)
  (h:∀ (kV doc pm:Value) (an:Option Addr) (cdv ct:Value) (us:List Value),us.length=ps.length→bindArgs (W.fnOf x qual (defArgs st) (defBody st) (defScope st) .none kV doc pm an cdv ct) ⟨us,[]⟩=pure (ps.zip us)):Binds K fd ps []:=by
 obtain ⟨oc,od,kV,doc,pm,an,cdv,ct,osl,rfl,lk,hcd⟩:=F.ex
 exact .all (h kV doc pm an cdv ct)
theorem fun_mk {x qual:Str} {st:Stmt} {f:Addr} {oc:Value} {od an:Option Addr} {osl:Array (Option Value)} {kV doc pm cdv ct:Value} (l:K.lookup f=some ⟨oc,od,.func (W.fnOf x qual (defArgs st) (defBody st) (defScope st) .none kV doc pm an cdv ct),osl⟩)
  (c:W.codeIn K cdv qual=true) (k:W.keepIn K (.ref f)=true):Fun K x qual st f (W.fnOf x qual (defArgs st) (defBody st) (defScope st) .none kV doc pm an cdv ct):=⟨⟨oc,od,kV,doc,pm,an,cdv,ct,osl,rfl,l,c⟩,k⟩
end
section
variable {X : Cx}
theorem pv (i:Nat) {x:Str} {pos:Pos} (hN:X.N[i]?=some x:=by rfl) (hv:Vis X.env.scope x:=by first | exact Or.inl rfl | exact Or.inr (Or.inl rfl) | exact Or.inr (Or.inr rfl)) (hd:(x == ("__debug__":Str))=false:=by decide)
  (hcd:(x == ("__classdict__":Str))=false:=by decide):PE X (.Name x pos) (tVar i):=pe_var hN hv hd hcd
end
theorem iteF {A B:Prop} (h:B):if false=true then A else B:=by
 rw [if_neg Bool.false_ne_true]
 exact h
theorem iteT {A B:Prop} (h:A):if true=true then A else B:=by
 rw [if_pos rfl]
 exact h
theorem ite2 {c A B:Prop} [Decidable c] (h1:c→A) (h2:¬ c→B):if c then A else B:=by
 by_cases h:c
 ·rw [if_pos h]
  exact h1 h
 ·rw [if_neg h]
  exact h2 h
def Same (H H':Hp):Prop:=∀ b o,H b=some o→H' b=some o
theorem Same.refl (H:Hp):Same H H:=fun _ _ h=>h
theorem Same.trans {H H1 H2:Hp} (a:Same H H1) (b:Same H1 H2):Same H H2:=fun c o h=>b c o (a c o h)
theorem Same.free {H H':Hp} (e:Same H H') {l:Addr} (h:H' l=Option.none):H l=Option.none:=by
 cases q:H l with
 | none=>rfl
 | some o =>
  rw [e l o q] at h
  cases h
theorem Same.seq {K:W.Frag} {H H':Hp} {a:Addr} {xs:List V} (e:Same H H') (h:SqL K H a xs):SqL K H' a xs:=by
 rcases h with (h | ⟨o,h⟩) | h
 ·exact .inl (.inl (e _ _ h))
 ·exact .inl (.inr ⟨o,e _ _ h⟩)
 ·exact .inr h
end L2
namespace L2
open PySem PySem.Spec PyProof.Rows
section
variable {P : Program} {w : World} {H H' : Hp} {h h' : Heap} {a : Addr} {o : HO}
theorem ObjOk.there (x:ObjOk P w H h a o):∃ ob,h.get? a=some ob:=by
 cases o with
 | lst xs=>obtain ⟨_,_,_,_,e⟩:=x; exact ⟨_,e⟩
 | tup xs=>obtain ⟨_,_,_,ob,e,_⟩:=x; exact ⟨_,e⟩
 | dK kvs=>obtain ⟨_,_,_,_,ob,_,_,e,_⟩:=x; exact ⟨_,e⟩
 | dT kvs=>obtain ⟨_,_,_,_,ob,_,_,e,_⟩:=x; exact ⟨_,e⟩
 | set S n=>obtain ⟨ob,_,_,_,e,_⟩:=x; exact ⟨_,e⟩
 | ins C dx fs=>obtain ⟨_,_,_,e,_⟩:=x; exact ⟨_,e⟩
 | own y=>obtain ⟨_,e⟩:=x; exact ⟨_,e⟩
 | xd fs=>obtain ⟨_,⟨_,_,_,e,_⟩,_⟩:=x; exact ⟨_,e⟩
 | rng lo hi=>obtain ⟨_,_,_,e⟩:=x; exact ⟨_,e⟩
 | frz ob u=>obtain ⟨e,_⟩:=x; exact ⟨_,e⟩
 | tbl ps=>exact ⟨_,(show h.get? a=some _ from x)⟩
 | met f y=>exact ⟨_,(show h.get? a=some _ from x)⟩
 | ext φ=>obtain ⟨_,e,_⟩:=x; exact e
end
def FlyB (outer:List Env) (H':Hp) (hs:Heap) (x:Addr) (cls:Value) (h:Heap):Prop :=
 ∃ (B:Heap) (a0:Value),Heap.FlyingW B outer x cls a0 h∧(∀ b,H' b≠none→∃ o,B.get? b=some o)∧(∀ b o,hs.get? b=some o→b ∉ frs outer→∃ o',B.get? b=some o')
def CXE (P:Program) (w:World):CXT:=fun outer H s E e s' =>
 ∃ (x:Addr) (cls:Value) (H':Hp),e=.ref x∧s'.os=s.os∧AllBare s'.gens∧Un (frs outer) [] H H' s.heap s'.heap∧HOk P w H' s'.heap∧FlyB outer H' s.heap x cls s'.heap∧E cls none H'
theorem fly_turn {P:Program} {w:World} {outer:List Env} {H H':Hp} {hs h h' B:Heap} (u:Un (frs outer) [] H H' hs h) (ok:HOk P w H' h) (t:∀ b,H' b≠none→∃ o,B.get? b=some o)
  (el:∀ b o,hs.get? b=some o→b ∉ frs outer→∃ o',B.get? b=some o') (k:B.StaysIn h) (k':B.StaysIn h') (ff:h.FunFrames B outer) (up:h.UpToSlots h') :
  Un (frs outer) [] H H' hs h'∧HOk P w H' h':=by
 have inB:∀ b o,(∃ o',B.get? b=some o')→h.get? b=some o→h'.get? b=some o:=fun b o ⟨o',e'⟩ e=>by
  have z:=k b o' e'
  rw [e] at z
  cases z
  exact k' b _ e'
 have fr:∀ b o,b∈frs outer→h.get? b=some o→∃ sl,h'.get? b=some { o with slots:=sl }:=fun b o hb e=>by
  obtain ⟨_,o2,e2,d⟩:=ff.mem hb
  rw [e] at e2
  cases e2
  exact up b _ e d
 refine ⟨⟨fun b o e n hb hx=>inB b o (el b o e hb) (u.keep b o e n hb hx),fun b o e n hb hx=>?_,u.free,fun b o e hx=>?_,u.tups,u.frzs,u.tbls⟩,fun a o e=>(ok a o e).stay (fun b v hb q=>inB b v (t b ?_) q) (fun _ q=>q) fun _ _ q=>q⟩
 ·obtain ⟨sl,e1⟩:=u.slot b o e n hb hx
  obtain ⟨sl',e3⟩:=fr b _ hb e1
  exact ⟨sl',e3⟩
 ·obtain ⟨o1,e1⟩:=u.there b o e hx
  by_cases hb:b∈frs outer
  ·obtain ⟨sl,e3⟩:=fr b _ hb e1
   exact ⟨_,e3⟩
  ·exact ⟨o1,inB b o1 (el b o e hb) e1⟩
 ·rcases hb with z | z
  ·rw [z,e]; exact fun z=>nomatch z
  ·rw [z]; exact fun z=>nomatch z
section
variable {P : Program} {w : World} {K : W.Frag} {mg : Str → Option Value} {base : Heap} {N : List Str} {qual : Str} {scope : Scope} {f : Addr} {cd : Value} {A : Around} {outer : List Env} {s : Shared} {H : Hp} {E : XK}
theorem pass_cx:Passes (CXE P w) (cxOf (CXE P w) P w K mg base N qual scope f cd A outer s H E) E:=by
 intro pins σ H1 s1 e s' I h
 obtain ⟨x,cls,H',rfl,os,bare,un,hok,⟨B,a0,fl,t,el⟩,q⟩:=h
 refine wpAny_leaves_onW (base:=B) (L:=s.heap.objs.size) I.ok.frames rfl fl fun h' fl' up=>?_
 obtain ⟨un',hok'⟩:=fly_turn un hok t el fl.1 fl'.1 fl.2.2.1 up
 have I':=I.call (h':=h') (g':=s'.gens) (d':=s'.drawn) (t':=s'.toks) (ch:=[]) un' hok' bare (fun b z=>absurd z (by simp))
 refine ⟨x,cls,H',rfl,os.trans I.os,bare,I'.base,hok',⟨B,a0,fl',t,fun b o e nb=>?_⟩,q⟩
 obtain ⟨o1,e1⟩:=I.base.there b o e (fun z=>nomatch z)
 refine el b o1 e1 fun z=>?_
 rcases List.mem_cons.mp (I.stkSub b z) with z' | z'
 ·rw [z'] at e
  exact absurd (Heap.lt_size e) (Nat.lt_irrefl _)
 ·exact nb z'
theorem raise_cx {pins:List (Addr × Obj)} {σ:St} {H1:Hp} {s1:Shared} {h1:Heap} {e:Addr} {cls:Value} {vs:List Value} (I:Inv (cxOf (CXE P w) P w K mg base N qual scope f cd A outer s H E) pins σ H1 s1)
  (hk:scope.kind=.function) (mx:Heap.MadeExcOf s1.heap h1 e cls vs) (q:E cls none H1):(cxOf (CXE P w) P w K mg base N qual scope f cd A outer s H E).xe (.ref e) { s1 with heap:=h1 }:=by
 have fs:=I.stack
 have hin:∀ env∈(cxOf (CXE P w) P w K mg base N qual scope f cd A outer s H E).stack,∀ b,env.frame=some b→b∈frs (cxOf (CXE P w) P w K mg base N qual scope f cd A outer s H E).stack:=fun env he b hb=>List.mem_filterMap.mpr ⟨env,he,hb⟩
 have ff:=W.funFrames_hide fs hin
 have st:(W.hideAll s1.heap (frs (cxOf (CXE P w) P w K mg base N qual scope f cd A outer s H E).stack)).StaysIn s1.heap:=fun b o z=>W.of_hideAll _ z
 have I1:Inv _ pins σ H1 { s1 with heap:=h1 }:=I.kept (h':=h1) (t':=s1.toks) mx.keeps
 have un1:Un (frs (cxOf (CXE P w) P w K mg base N qual scope f cd A outer s H E).stack) [] H1 H1 s1.heap h1:=Un.kept mx.keeps
 have tr:∀ b,H1 b≠none→∃ o,(W.hideAll s1.heap (frs (cxOf (CXE P w) P w K mg base N qual scope f cd A outer s H E).stack)).get? b=some o:=fun b n=>by
  cases z:H1 b with
  | none=>exact absurd z n
  | some u =>
   obtain ⟨o,e⟩:=(I.hok b u z).there
   exact ⟨o,W.hideAll_get _ e fun m=>by rw [I.stkFree b m] at z; cases z⟩
 have el:∀ b o,s1.heap.get? b=some o→b ∉ frs (cxOf (CXE P w) P w K mg base N qual scope f cd A outer s H E).stack→∃ o',(W.hideAll s1.heap (frs (cxOf (CXE P w) P w K mg base N qual scope f cd A outer s H E).stack)).get? b=some o' :=
  fun b o e n=>⟨o,W.hideAll_get _ e n⟩
 refine wpAny_leaves_madeW (base:=W.hideAll s1.heap (frs (cxOf (CXE P w) P w K mg base N qual scope f cd A outer s H E).stack)) (L:=s.heap.objs.size) I.ok.frames rfl st ff mx fun h' t fl' _ _ up=>?_
 have k1:(W.hideAll s1.heap (frs (cxOf (CXE P w) P w K mg base N qual scope f cd A outer s H E).stack)).StaysIn h1:=fun b o z=>mx.keeps b o (st b o z)
 have ff1:h1.FunFrames (W.hideAll s1.heap (frs (cxOf (CXE P w) P w K mg base N qual scope f cd A outer s H E).stack)) (cxOf (CXE P w) P w K mg base N qual scope f cd A outer s H E).stack:=ff.of_keeps fun b o z _=>⟨o,mx.keeps b o z,rfl⟩
 obtain ⟨un',hok'⟩:=fly_turn un1 I1.hok tr el k1 fl'.1 ff1 up
 have I':=I.call (h':=h') (g':=s1.gens) (d':=s1.drawn) (t':=s1.toks) (ch:=[]) un' hok' I.bare (fun b z=>absurd z (by simp))
 refine ⟨e,cls,H1,rfl,I.os,I.bare,I'.base,hok',⟨_,.ref t,fl',tr,fun b o e' nb=>?_⟩,q⟩
 obtain ⟨o1,e1⟩:=I.base.there b o e' (fun z=>nomatch z)
 refine el b o1 e1 fun z=>?_
 rcases List.mem_cons.mp (I.stkSub b z) with z' | z'
 ·rw [z'] at e'
  exact absurd (Heap.lt_size e') (Nat.lt_irrefl _)
 ·exact nb z'
theorem own_cx:PassesOwn (model P w) (cxOf (CXE P w) P w K mg base N qual scope f cd A outer s H E).A (cxOf (CXE P w) P w K mg base N qual scope f cd A outer s H E).env (cxOf (CXE P w) P w K mg base N qual scope f cd A outer s H E).xe :=
 PassesOwn.leaving
end
def Rais (X:Cx) (E:XK):Prop:=∀ (pins:List (Addr × Obj)) (σ:St) (H:Hp) (s:Shared) (h1:Heap) (e:Addr) (cls:Value) (vs:List Value),Inv X pins σ H s→Heap.MadeExcOf s.heap h1 e cls vs→E cls none H→X.xe (.ref e) { s with heap:=h1 }
theorem own_obj {K:W.Frag} {h:Heap} {C:Addr} {bmB:List Value} {newId:String} (X:K.In h) (q:W.excIn K C bmB newId=true) :
  ∃ bm N nm q bs hdct sn sub ab col dd k0 k1 k2 k3 k5 mN,h.get? C=some (excClassObj nm q C N bs bm hdct sn sub ab col dd k0 k1 k2 k3 k5 newId)∧h.Ns N mN∧mN "__init__"=none∧OwnTail h bmB bm:=by
 unfold W.excIn at q
 split at q
 ·rename_i dd cd sl ho
  split at q
  ·rename_i C' bm k0 k1 k2 k3 n k5 hm hs
   simp only [Bool.and_eq_true,beq_iff_eq,Bool.not_eq_true'] at q
   obtain ⟨⟨⟨⟨⟨rfl,rfl⟩,hdel⟩,ht⟩,hok⟩,hni⟩:=q
   obtain ⟨nm,bs,mro,ns,qn,hd,sn,sub,ab,col,del⟩:=cd
   dsimp only at hm hdel hok hni
   subst hm hdel
   have hsl:sl=#[k0,k1,k2,k3,some (.builtin n),k5]:=by
    obtain ⟨l⟩:=sl
    simp only at hs
    rw [hs]
   subst hsl
   exact ⟨bm,ns,nm,qn,bs,hd,sn,sub,ab,col,dd,k0,k1,k2,k3,k5,_,X _ _ ho,.of_isNs (W.isNs_of_in X hok),W.nsMap_none_of_in X hok hni,W.tail_of_in X ht⟩
  ·cases q
 ·cases q
abbrev bmV:List Value:=[.type "ValueError",.type "Exception",.type "BaseException",.type "object"]
structure ExC (K:W.Frag) (mg:Str→Option Value) (x:Str) (C:Addr):Prop where
 mg:mg x=some (.ref C)
 ok:W.excIn K C bmV "ValueError.__new__"=true
def tRaise (C:Addr) (E:XK) (t:TA):TS:=fun _ σ H=>t σ H fun vs H1=>vs.length≤sizeLine∧E (.ref C) none H1
section
variable {X : Cx} {x : Str} {C : Addr} {E : XK} {e : Expr} {es : List Expr} {t : TA} {np cpos pos : Pos}
theorem ps_raise (hX:ExC X.K X.mg x C) (hc:X.calm=true) (hg:Gl X x) (hr:Rais X E) (ha:PA X (e :: es) t) (hd:(x == ("__debug__":Str))=false:=by decide)
  (he:starEach (e :: es) X.env=(false,eval e X.env) :: starEach es X.env:=by rfl) (hpl:(backTo cpos (starEach es X.env)).any (·.1)=false:=by rfl) :
  PS X (.Raise (some (.Call (.Name x np) (e :: es) [] cpos)) none pos) (tRaise C E t):=by
 intro pins s σ H D I h
 obtain ⟨tl,N,nm,q,bs,hdct,sn,sub,ab,col,dd,k0,k1,k2,k3,k5,mN,hC,hN,hni,T⟩:=own_obj I.mod.kin hX.ok
 refine wpAny_Raise_call_subT (C:=C) (nm:=nm) (q:=q) (N:=N) (bs:=bs) (bm:=tl) (hdct:=hdct) (sn:=sn) (sub:=sub) (ab:=ab) (col:=col) (dd:=dd) (k0:=k0) (k1:=k1) (k2:=k2) (k3:=k3) (k5:=k5)
  F.excBase_ValueError (mN:=mN) (T.hasType F.excBase_ValueError.hasBase) (I.ok.hd hc) (by rw [he]; show (false || (backTo cpos (starEach es X.env)).any (·.1))=false; rw [hpl]; rfl) hni (ld_glob I hg hX.mg ⟨rfl,?_⟩ hd)
 have hx:=ha cpos pins s σ H _ I h
 rw [he] at hx ⊢
 refine Calls.evalArgs_plain (thn hx fun us s2 ⟨vs,H2,I2,r,hl,q2⟩=>⟨rfl,?_,I2.bk _ _ hC,hN.keeps I2.bk,T.keeps I2.bk,fun h' e' mx=>hr pins σ H2 s2 h' e' (.ref C) us I2 mx q2⟩)
 show us.length≤sizeLine
 rw [← r.length]
 exact hl
end
end L2
namespace L2
open PySem PySem.Spec PyProof.Rows
abbrev Cx.tr (X:Cx) (asg:List Nat) (pn':List (Addr × Obj)) (k:Nat→Option V) (xe':Value→Shared→Prop):Cx :=
 { X with pn:=pn',kn:=fun i=>bif asg.contains i then Option.none else k i,xe:=xe' }
abbrev Cx.hd (X:Cx) (x:Addr) (pn':List (Addr × Obj)) (xe':Value→Shared→Prop):Cx :=
 { X with A:=X.A.mark (some (.ref x)),calm:=false,pn:=pn',kn:=fun _=>Option.none,xe:=xe' }
section
variable {X : Cx} {pins pn' : List (Addr × Obj)} {σ σ' : St} {H : Hp} {s : Shared} {asg : List Nat} {k : Nat → Option V} {xe' : Value → Shared → Prop} {x : Addr}
theorem Cx.Ok.tr (ok:X.Ok):(X.tr asg pn' k xe').Ok :=
 ⟨ok.mod,ok.kind,ok.glob,ok.blt,ok.above,ok.inj,ok.has,ok.cab,ok.hd,ok.frames,ok.stk,ok.exf,ok.bs,ok.bsz,ok.noex,ok.exfs,ok.funs,ok.frf⟩
theorem Cx.Ok.untr (ok:(X.tr asg pn' k xe').Ok):X.Ok :=
 ⟨ok.mod,ok.kind,ok.glob,ok.blt,ok.above,ok.inj,ok.has,ok.cab,ok.hd,ok.frames,ok.stk,ok.exf,ok.bs,ok.bsz,ok.noex,ok.exfs,ok.funs,ok.frf⟩
theorem Cx.Ok.inhd (ok:X.Ok):(X.hd x pn' xe').Ok :=
 ⟨ok.mod,ok.kind,ok.glob,ok.blt,ok.above,ok.inj,ok.has,ok.cab,(fun z=>nomatch z),ok.frames,ok.stk,ok.exf,ok.bs,ok.bsz,ok.noex,ok.exfs,ok.funs,ok.frf⟩
theorem Inv.tr (I:Inv X pins σ H s):Inv (X.tr asg (X.pn ++ pins) (fun i=>(σ[i]?).join) xe') [] σ H s :=
 ⟨I.ok.tr,I.os,I.bare,I.base,I.loc,I.cell,I.free,I.freeC,fun p hp=>I.pin p (by rw [List.append_nil] at hp; exact hp),I.hok,I.len,fun i v z=>by
  have z':(bif asg.contains i then Option.none else (σ[i]?).join)=some v:=z
  cases q:asg.contains i with
  | true=>rw [q] at z'; cases z'
  | false =>
   rw [q] at z'
   cases q2:σ[i]? with
   | none=>rw [q2] at z'; cases z'
   | some o =>
    rw [q2] at z'
    cases o with
    | none=>cases z'
    | some u=>cases z'; rfl⟩
theorem Inv.untr {p2:List (Addr × Obj)} (I:Inv (X.tr asg (X.pn ++ pins) k xe') p2 σ H s) (hk:∀ i,X.kn i=Option.none):Inv X pins σ H s :=
 ⟨I.ok.untr,I.os,I.bare,I.base,I.loc,I.cell,I.free,I.freeC,fun p hp=>I.pin p (List.mem_append_left _ hp),I.hok,I.len,fun i v z=>by rw [hk i] at z; cases z⟩
theorem Inv.inhd (I:Inv X pins σ H s):Inv (X.hd x (X.pn ++ pins) xe') [] σ H s :=
 ⟨I.ok.inhd,I.os,I.bare,I.base,I.loc,I.cell,I.free,I.freeC,fun p hp=>I.pin p (by rw [List.append_nil] at hp; exact hp),I.hok,I.len,fun i v z=>nomatch z⟩
theorem Inv.unhd {p2:List (Addr × Obj)} (ok:X.Ok) (I:Inv (X.hd x (X.pn ++ pins) xe') p2 σ H s) (hk:∀ i,X.kn i=Option.none):Inv X pins σ H s :=
 ⟨ok,I.os,I.bare,I.base,I.loc,I.cell,I.free,I.freeC,fun p hp=>I.pin p (List.mem_append_left _ hp),I.hok,I.len,fun i v z=>by rw [hk i] at z; cases z⟩
theorem Inv.adopt {o:HO} (I:Inv X pins σ H s) (hx:H x=none) (ok:ObjOk X.prog X.w (upd H x o) s.heap x o) (h0:X.s₀.heap.get? x=none) (hL:x≠X.env.locals)
  (hC:∀ y c,X.env.cells.lookup y=some c→c≠x) (hp:∀ p∈X.pn ++ pins,p.1≠x):Inv X pins σ (upd H x o) s:=by
 have nx:∀ b u,H b=some u→b≠x:=fun b u e z=>by rw [z,hx] at e; cases e
 refine ⟨I.ok,I.os,I.bare,⟨I.base.keep,I.base.slot,fun b ob e n hb=>?_,I.base.there,fun b xs e=>?_,fun b ob u e=>?_,fun b ps e=>?_⟩,I.loc,I.cell,?_,fun y c e=>?_,fun p hq=>?_,fun b u e=>?_,I.len,I.kno⟩
 ·have z:b≠x:=fun z=>by rw [z,h0] at e; cases e
  rw [upd_ne z]; exact I.base.free b ob e n hb
 ·have z:=I.base.tups b xs e
  rw [upd_ne (nx _ _ z)]; exact z
 ·have z:=I.base.frzs b ob u e
  rw [upd_ne (nx _ _ z)]; exact z
 ·obtain ⟨m,z⟩:=I.base.tbls b ps e
  exact ⟨m,by rw [upd_ne (nx _ _ z)]; exact z⟩
 ·rw [upd_ne (Ne.symm hL)]; exact I.free
 ·rw [upd_ne (hC y c e)]; exact I.freeC y c e
 ·obtain ⟨e1,e2,e3⟩:=I.pin p hq
  exact ⟨e1,by rw [upd_ne (hp p hq)]; exact e2,e3⟩
 ·by_cases hb:b=x
  ·subst hb
   rw [upd_same] at e
   cases e
   exact ok
  ·rw [upd_ne hb] at e
   exact (I.hok b u e).stay (fun _ _ _ q=>q) (fun c q=>by rw [upd_ne (nx _ _ q)]; exact q) fun c xs q=>by rw [upd_ne (nx _ _ q)]; exact q
end
def maskF (asg:List Nat):Nat→St→St
 | _,[]=>[]
 | i,o :: r=>(bif asg.contains i then Option.none else o) :: maskF asg (i + 1) r
theorem maskF_len (asg:List Nat):∀ (j:Nat) (σ:St),(maskF asg j σ).length=σ.length
 | _,[]=>rfl
 | j,_ :: r=>by simp only [maskF,List.length_cons,maskF_len asg (j + 1) r]
theorem maskF_get (asg:List Nat):∀ (j:Nat) (σ:St) (i:Nat) (v:V),(maskF asg j σ)[i]?=some (some v)→asg.contains (j + i)=false∧σ[i]?=some (some v)
 | _,[],i,v,e=>by simp [maskF] at e
 | j,o :: r,0,v,e=>by
  simp only [maskF,List.getElem?_cons_zero,Option.some.injEq] at e
  cases q:asg.contains j with
  | true=>rw [q] at e; cases e
  | false=>rw [q] at e; exact ⟨by first | rfl | exact q,by rw [List.getElem?_cons_zero]; exact congrArg some e⟩
 | j,o :: r,i + 1,v,e=>by
  simp only [maskF,List.getElem?_cons_succ] at e
  obtain ⟨a,b⟩:=maskF_get asg (j + 1) r i v e
  exact ⟨by rw [show j + (i + 1)=j + 1 + i by omega]; exact a,by rw [List.getElem?_cons_succ]; exact b⟩
def ExcAt (x:Addr) (cls:Value) (h:Heap):Prop:=∃ oe vs,h.get? x=some oe∧oe.cls=cls∧oe.data=.fields vs
theorem excAt_ext {P:Program} {w:World} {H:Hp} {h:Heap} {x:Addr} {cls:Value} (e:ExcAt x cls h):ObjOk P w H h x (.ext (ExcAt x cls)) :=
 ⟨e,(let ⟨oe,_,e1,_⟩:=e; ⟨oe,e1⟩),fun _ _ ⟨oe,vs,e1,e2,e3⟩ k=>⟨oe,vs,k oe e1,e2,e3⟩⟩
structure Landed (X:Cx) (pins:List (Addr × Obj)) (asg:List Nat) (σ:St) (E:XK) (x:Addr) (cls:Value) (H':Hp) (s:Shared):Prop where
 inv:Inv X pins (maskF asg 0 σ) H' s
 new:H' x=none
 at_:ExcAt x cls s.heap
 h0:X.s₀.heap.get? x=none
 hL:x≠X.env.locals
 hC:∀ y c,X.env.cells.lookup y=some c→c≠x
 hp:∀ p∈X.pn ++ pins,p.1≠x
 want:E cls none H'
theorem Landed.adopted {X:Cx} {pins:List (Addr × Obj)} {asg:List Nat} {σ:St} {E:XK} {x:Addr} {cls:Value} {H':Hp} {s:Shared} (L:Landed X pins asg σ E x cls H' s) :
  Inv X pins (maskF asg 0 σ) (upd H' x (.ext (ExcAt x cls))) s:=L.inv.adopt L.new (excAt_ext L.at_) L.h0 L.hL L.hC L.hp
section
variable {X : Cx} {pins : List (Addr × Obj)} {σ : St} {H : Hp} {s : Shared} {asg : List Nat} {E : XK} {hs : List ExceptHandler} {Q : Flow → Shared → Prop}
theorem look_at (I:Inv X pins σ H s) (hex:X.ex=[]) (hst:X.stack=X.env :: X.outer∧X.env.frame=some X.env.locals) (hk:∀ i,X.kn i=Option.none)
  (hh:∀ (x:Addr) (cls:Value) (H':Hp) (B:Heap) (a0:Value) (s':Shared),Heap.FlyingW B X.stack x cls a0 s'.heap→Landed X pins asg σ E x cls H' s' →
   (∀ h'',Heap.FlyingW B X.stack x cls a0 h''→s'.heap.UpToSlots h''→Landed X pins asg σ E x cls H' { s' with heap:=h'' }) →
   wpAny (model X.prog X.w) X.A (handleBy (.ref x) X.env hs) Q X.xe s') :
  Passes (CXE X.prog X.w) (X.tr asg (X.pn ++ pins) (fun i=>(σ[i]?).join) (fun e s₁=>wpAny (model X.prog X.w) X.A (noteFrame e X.env) (fun _ s₂=>wpAny (model X.prog X.w) X.A (setFlight e none) (fun _ s₃ =>
   wpAny (model X.prog X.w) X.A (handleBy e X.env hs) Q X.xe s₃) X.xe s₂) X.xe s₁)) E:=by
 intro pins1 σ1 H1 s1 e s' I1 hc
 obtain ⟨x,cls,H',rfl,os,bare,un,hok,⟨B,a0,fl,t,el⟩,q⟩:=hc
 have un:Un (frs X.stack) [] H1 H' s1.heap s'.heap:=un
 have fl:Heap.FlyingW B X.stack x cls a0 s'.heap:=fl
 have el:∀ b o,s1.heap.get? b=some o→b ∉ frs X.stack→∃ o',B.get? b=some o':=el
 have notB:∀ b o,B.get? b=some o→b≠x:=fun b o e z=>by rw [z,fl.2.1] at e; cases e
 have H'x:H' x=none:=by
  cases z:H' x with
  | none=>rfl
  | some u =>
   obtain ⟨o,e⟩:=t x (by rw [z]; exact fun q=>nomatch q)
   exact absurd rfl (notB x o e)
 have nfr:x ∉ frs X.stack:=fun m=>by
  obtain ⟨oe,vs,h1,_,h3,_⟩:=fl.first
  obtain ⟨_,o,h5,d⟩:=fl.2.2.1.mem m
  rw [h1] at h5
  cases h5
  exact d vs h3
 have old:∀ o,s1.heap.get? x=some o→False:=fun o e=>by
  obtain ⟨o2,e2⟩:=el x o e nfr
  exact notB x o2 e2 rfl
 have x0:X.s₀.heap.get? x=none:=by
  cases z:X.s₀.heap.get? x with
  | none=>rfl
  | some o =>
   obtain ⟨o1,e1⟩:=I1.base.there x o z (fun w=>by rw [show (X.tr asg (X.pn ++ pins) (fun i=>(σ[i]?).join) _).ex=X.ex from rfl,hex] at w; cases w)
   exact (old o1 e1).elim
 have xL:x≠X.env.locals:=fun z=>nfr (by rw [z,hst.1]; exact List.mem_filterMap.mpr ⟨X.env,.head _,hst.2⟩)
 have xC:∀ y c,X.env.cells.lookup y=some c→c≠x:=fun y c e z=>by
  obtain ⟨v,oc,ec,_⟩:=I1.cell y c e
  rw [z] at ec
  exact old oc ec
 have xP:∀ p∈X.pn ++ pins,p.1≠x:=fun p hp z=>by
  have e:=(I1.pin p (List.mem_append_left _ hp)).1
  rw [z] at e
  exact old _ e
 have land:∀ h'',Heap.FlyingW B X.stack x cls a0 h''→s'.heap.UpToSlots h''→Landed X pins asg σ E x cls H' { s' with heap:=h'' }:=fun h'' fl'' up=>by
  obtain ⟨un'',hok''⟩:=fly_turn un hok t el fl.1 fl''.1 fl.2.2.1 up
  have I2:=I1.call (h':=h'') (g':=s'.gens) (d':=s'.drawn) (t':=s'.toks) (ch:=[]) un'' hok'' bare (fun b z=>absurd z (by simp))
  have I3:Inv X pins σ1 H' { s1 with heap:=h'',gens:=s'.gens,drawn:=s'.drawn,toks:=s'.toks }:=I2.untr hk
  have es:({ s1 with heap:=h'',gens:=s'.gens,drawn:=s'.drawn,toks:=s'.toks }:Shared)={ s' with heap:=h'' }:=by
   obtain ⟨_,_,_,_,o1⟩:=s1
   obtain ⟨_,_,_,_,o2⟩:=s'
   have z:o2=o1:=os
   subst z
   rfl
  rw [es] at I3
  obtain ⟨oe,vs,h1,h2,h3,_⟩:=fl''.first
  refine ⟨I3.weak (by rw [maskF_len,I.len,I3.len]) (fun i v z=>?_) (fun i v z=>by rw [hk i] at z; cases z),H'x,⟨oe,vs,h1,h2,h3⟩,x0,xL,xC,xP,q⟩
  obtain ⟨a,b⟩:=maskF_get asg 0 σ i v z
  rw [Nat.zero_add] at a
  refine I2.kno i v ?_
  show (bif asg.contains i then Option.none else (σ[i]?).join)=some v
  rw [a,b]
  rfl
 have frames:X.A.frames=some (X.env :: X.outer):=by rw [← hst.1]; exact I.ok.frames
 rw [hst.1] at fl
 refine wpAny_looks_onW (base:=B) (L:=X.env.locals) frames hst.2 fl fun h4 held up4=>?_
 refine wpAny_landsW held fun h5 fl5 up5=>?_
 rw [← hst.1] at fl5
 refine hh x cls H' B a0 _ fl5 (land h5 fl5 (up4.trans up5)) fun h'' fl'' up=>?_
 exact land h'' fl'' ((up4.trans up5).trans up)
end
section
variable {X : Cx} {x : Str} {C : Addr} {E : XK} {body : List Stmt} {b0 : Stmt} {suite : List Stmt} {asg : List Nat} {np hpos pos : Pos} {tb : List (Addr × Obj) → (Nat → Option V) → (Value → Shared → Prop) → TS} {th : Addr → List (Addr × Obj) → TS}
def Ends.gone (D:Ends) (i:Nat):Ends:={ nx:=fun σ H=>D.nx (σ.set i Option.none) H,rt:=D.rt,bk:=fun σ H=>D.bk (σ.set i Option.none) H,ct:=fun σ H=>D.ct (σ.set i Option.none) H }
def tTryA (K:W.Frag) (C:Addr) (E:XK) (asg:List Nat) (i:Nat) (tb:List (Addr × Obj)→(Nat→Option V)→(Value→Shared→Prop)→TS) (th:Addr→List (Addr × Obj)→TS):TS:=fun D σ H =>
 (∀ pn k xe,tb pn k xe D σ H)∧∀ cls H' x,E cls none H'→H' x=none→W.exmOne K cls (.ref C)=some true∧∀ pn,th x pn (D.gone i) ((maskF asg 0 σ).set i (some (.ref x))) (upd H' x (.ext (ExcAt x cls)))
theorem excAt_looks {M:Model} {h:Heap} {x:Addr} {cls:Value} (e:ExcAt x cls h):W.Looks M h (typeOf (.ref x)) cls:=by
 obtain ⟨oe,vs,h1,h2,_⟩:=e
 exact h2 ▸ (W.Looks.ld h1).andThen .now
theorem Inv.gone {pins:List (Addr × Obj)} {σ:St} {H:Hp} {s:Shared} {i:Nat} {n:Str} {pos:Pos} {A:Around} {E':Value→Shared→Prop} {Q:Unit→Shared→Prop} (I:Inv X pins σ H s) (hN:X.N.Nodup) (hi:X.N[i]?=some n)
  (hl:X.env.scope.names.lookup n=some .local) (hk:∀ i,X.kn i=Option.none) (h:∀ s',Inv X pins (σ.set i Option.none) H s'→Q () s') :
  wpAny (model X.prog X.w) A (do bindName X.env n .none; unbindBehindTheSuite X.env n pos) Q E' s:=by
 obtain ⟨m,hn,hlk⟩:=id I.loc
 have hcls:(X.env.scope.kind == .class || (X.env.scope.kind == .module && X.env.locals != X.env.globals))=false:=by rw [I.ok.kind]; rfl
 refine wpAny_nameGoes_keeps hl hn hcls fun h' v hn' hs=>h _ ?_
 obtain ⟨oL,_,_,hoL,_⟩:=id hn
 have cne:=I.cne
 refine ⟨I.ok,I.os,I.bare,⟨fun b o e n hb hx=>?_,fun b o e n hb hx=>?_,I.base.free,fun b o e hx=>?_,I.base.tups,I.base.frzs,I.base.tbls⟩,⟨_,hn',fun j y v' e1 e2 e3=>?_⟩,fun y c e=>?_,I.free,I.freeC,fun p hp=>?_,fun b ob e=>?_,by simpa using I.len,fun j u z=>by rw [hk j] at z; cases z⟩
 ·exact (hs.2 b (Nat.ne_of_lt (Nat.lt_of_lt_of_le (Heap.lt_size e) I.ok.above))).trans (I.base.keep b o e n hb hx)
 ·obtain ⟨sl,e1⟩:=I.base.slot b o e n hb hx
  exact ⟨sl,(hs.2 b (Nat.ne_of_lt (Nat.lt_of_lt_of_le (Heap.lt_size e) I.ok.above))).trans e1⟩
 ·obtain ⟨o',e1⟩:=I.base.there b o e hx
  exact ⟨o',(hs.2 b (Nat.ne_of_lt (Nat.lt_of_lt_of_le (Heap.lt_size e) I.ok.above))).trans e1⟩
 ·have hij:i≠j:=fun z=>by
   subst z
   rw [List.getElem?_set] at e2
   split at e2
   ·split at e2 <;> cases e2
   ·exact absurd rfl ‹¬ i=i›
  rw [List.getElem?_set_ne hij] at e2
  obtain ⟨u,r,l⟩:=hlk j y v' e1 e2 e3
  refine ⟨u,r,?_⟩
  rcases l with ⟨a,b⟩ | ⟨a,c,b,z⟩
  ·refine .inl ⟨a,?_⟩
   have hy:y≠n:=fun z=>by subst z; exact hij (nodup_ix hN hi e1)
   show (if y=n then v else m y)=some u
   rw [if_neg hy]; exact b
  ·exact .inr ⟨a,c,b,z.sameBut hs (cne y c b)⟩
 ·obtain ⟨w',z⟩:=I.cell y c e
  exact ⟨w',z.sameBut hs (cne y c e)⟩
 ·obtain ⟨e,n,ne,nf,d⟩:=I.pin p hp
  exact ⟨(hs.2 p.1 ne).trans e,n,ne,nf,d⟩
 ·refine (I.hok b ob e).stay (fun c w' hc q=>(hs.2 c ?_).trans q) (fun _ q=>q) fun _ _ q=>q
  rintro rfl
  rcases hc with hc | hc
  ·rw [← hc,I.free] at e; cases e
  ·rw [I.free] at hc; cases hc
theorem ps_tryA {i:Nat} {n:Str} (hm:X.mg x=some (.ref C)) (hg:Gl X x) (hex:X.ex=[]) (hst:X.stack=X.env :: X.outer∧X.env.frame=some X.env.locals) (hk:∀ i,X.kn i=Option.none)
  (hN:X.N.Nodup) (hi:X.N[i]?=some n) (hl:X.env.scope.names.lookup n=some .local)
  (hb:∀ pn k xe,Passes (CXE X.prog X.w) (X.tr asg pn k xe) E→PassesOwn (model X.prog X.w) X.A X.env xe→PSs (X.tr asg pn k xe) body (tb pn k xe))
  (hh:∀ y pn,PSs (X.hd y pn fun _ _=>False) (b0 :: suite) (th y pn)) (hd:(x == ("__debug__":Str))=false:=by decide) :
  PS X (.Try body [.ExceptHandler (some (.Name x np)) (some n) (b0 :: suite) hpos] [] [] pos) (tTryA X.K C E asg i tb th):=by
 intro pins s σ H D I h
 refine wpAny_Try_except ?_
 have hx:=look_at (asg:=asg) (E:=E) (hs:=[.ExceptHandler (some (.Name x np)) (some n) (b0 :: suite) hpos]) (Q:=SP X pins D) I hex hst hk fun y cls H' B a0 s' fl L land=>?_
 ·refine wpAny_mono (hb _ _ _ hx PassesOwn.looking [] s σ H D I.tr (h.1 _ _ _)) (fun f s1 q=>?_) fun _ _ z=>z
  cases f with
  | next=>obtain ⟨σ',H',I',q⟩:=q; exact wpAny_execs_nil ⟨σ',H',I'.untr hk,q⟩
  | brk=>obtain ⟨σ',H',I',q⟩:=q; exact ⟨σ',H',I'.untr hk,q⟩
  | cont=>obtain ⟨σ',H',I',q⟩:=q; exact ⟨σ',H',I'.untr hk,q⟩
  | ret u=>obtain ⟨v,σ',H',I',r,q⟩:=q; exact ⟨v,σ',H',I'.untr hk,r,q⟩
 ·obtain ⟨em,hq⟩:=h.2 cls H' y L.want L.new
  refine wpAny_handleBy_cons (codeAny_handlers_test ?_) (by intro q; cases q)
  refine ld_glob (X:=X.hd y (X.pn ++ pins) fun _ _=>False) L.inv.inhd hg hm ?_ hd
  refine (W.exm_one L.inv.kIn (excAt_looks L.at_) em).here ?_
  refine codeAny_handlers_suite_as ?_
  refine lands_againW fl fun h6 fl6 up6=>?_
  have L6:=land h6 fl6 up6
  have I6:Inv (X.hd y (X.pn ++ pins) fun _ _=>False) [] (maskF asg 0 σ) (upd H' y (.ext (ExcAt y cls))) _:=L6.adopted.inhd
  refine store_ok (X:=X.hd y (X.pn ++ pins) fun _ _=>False) (v:=.ref y) I6 hN hi (.inl hl) rfl (fun s7 I7=>?_) (.inr hl) rfl
  refine wpAny_mono (hh y (X.pn ++ pins) [] _ _ _ (D.gone i) I7 (hq _)) (fun f s1 q=>?_) fun _ _ z=>False.elim z
  have ok:=I.ok
  cases f with
  | next=>obtain ⟨σ',H2,I',q⟩:=q; exact (I'.unhd ok hk).gone hN hi hl hk fun s' J=>⟨_,H2,J,q⟩
  | brk=>obtain ⟨σ',H2,I',q⟩:=q; exact (I'.unhd ok hk).gone hN hi hl hk fun s' J=>⟨_,H2,J,q⟩
  | cont=>obtain ⟨σ',H2,I',q⟩:=q; exact (I'.unhd ok hk).gone hN hi hl hk fun s' J=>⟨_,H2,J,q⟩
  | ret u=>obtain ⟨v,σ',H2,I',r,q⟩:=q; exact (I'.unhd ok hk).gone hN hi hl hk fun s' J=>⟨v,_,H2,J,r,q⟩
end
end L2
namespace L2
open PySem PySem.Spec PyProof.Rows
structure ExK (K:W.Frag) (C:Addr):Prop where
 cl:(W.clsIn K C).isSome=true
 ga:W.findIn K (.ref C) "__getattribute__"=some (some (.builtin "BaseException.__getattribute__"))
 gn:W.findIn K (.ref C) "__getattr__"=some none
 kl:W.findIn K (.ref C) "__class__"=some (some (.builtin "object.__class__"))
 sub:W.subIn K (.ref C) (.type "BaseException")=some true
 ob:W.subIn K (.ref C) (.type "object")=some true
section
variable {prog : Program} {w : World} {A : Around} {E : Value → Shared → Prop} {h : Heap} {g : Array GenState} {d : Drawn} {t : Nat} {os : OsState} {a C : Addr} {o : Obj} {K : W.Frag} {vs : Array Value}
theorem class_get_exc {R:Result→Shared→Prop} (X:K.In h) (k:ExK K C) (hx:h.get? a=some o) (hc:o.cls=.ref C) (hq:R (.ok (.ret (.ref C))) ⟨h,g,d,t,os⟩) :
  codeAny (model prog w) A (.call (.builtin "getset_descriptor.__get__") ⟨[.builtin "object.__class__",.ref a,.ref C],[]⟩) R ⟨h,g,d,t,os⟩:=by
 have hT5:(⟨h,g,d,t,os⟩:Shared).TypeIs (.builtin "object.__class__") "getset_descriptor":=F.typeOf_object_class
 have LS:W.Looks (model prog w) h (isSubtype (.ref C) (.type (".".intercalate ("object.__class__".cutAt '.').dropLast))) true:=by
  rw [F.owner_object_class]; exact W.looks_subIn X k.ob
 refine codeAny_call_builtin F.slot_gs_get.plain F.entry_gs_get (F.slot_gs_get.check _ _ _ _ _ _ _ _ hT5 (F.args_gs_get _ _ _) ?_)
 repeat (any_goals (first | assumption | (with_reducible refine wpAny_loadPart_at hx ?_; rw [hc]) | (with_reducible refine wpAny_bind (LS.at ?_)) | (with_reducible refine LS.at ?_) | wp_step))
 refine ⟨Code.quiet_builtin _ (by decide +kernel),codeAny_builtin F.entry_object_class ?_⟩
 repeat (any_goals (first | assumption | (with_reducible refine wpAny_loadPart_at hx ?_; rw [hc]) | wp_step))
end
end L2
namespace L2
open PySem PySem.Spec PyProof.Rows
section
variable {prog : Program} {w : World} {A : Around} {E : Value → Shared → Prop} {h : Heap} {g : Array GenState} {d : Drawn} {t : Nat} {os : OsState} {a C : Addr} {o : Obj} {K : W.Frag} {vs : Array Value}
theorem class_entry_exc {tk:Tok} {Q:Fin→Shared→Prop} (X:K.In h) (k:ExK K C) (hx:h.get? a=some o) (hc:o.cls=.ref C) (hq:Q (.done (.ret (.ref C))) ⟨h,g,d,t,os⟩) :
  wpAny (model prog w) A (Builtin.«object.__getattribute__» ⟨[.ref a,.str "__class__" tk],[]⟩) Q E ⟨h,g,d,t,os⟩:=by
 have hT5:(⟨h,g,d,t,os⟩:Shared).TypeIs (.builtin "object.__class__") "getset_descriptor":=F.typeOf_object_class
 have L4:=W.looks_findIn (M:=model prog w) X k.kl
 have f5:=F.typeOf_object_class
 have f6:=F.slot_gs_get.lookup
 have f7:=F.slot_gs_set.lookup
 repeat (any_goals (first | assumption | (with_reducible refine wpAny_loadPart_at hx ?_; rw [hc]) | (with_reducible refine wpAny_bind (L4.at ?_)) | wp_step))
 refine class_get_exc X k hx hc ?_
 repeat (any_goals (first | assumption | wp_step))
theorem class_check_exc {M:Model} {nameV:Value} {Q:Unit→Shared→Prop} (X:K.In h) (k:ExK K C) (hx:h.get? a=some o) (hc:o.cls=.ref C) (hq:Q () ⟨h,g,d,t,os⟩) :
  wpAny M A (checkBuiltinCall "BaseException.__getattribute__" ⟨[.ref a,nameV],[]⟩) Q E ⟨h,g,d,t,os⟩:=by
 have hk:builtinKind "BaseException.__getattribute__"=some .slot:=by decide +kernel
 have hsplit:splitId "BaseException.__getattribute__"=some ("BaseException","__getattribute__"):=by decide +kernel
 have LS:=W.looks_subIn (M:=M) X k.sub
 have ha:=F.args_bexc_ga (.ref a) nameV
 simp only [checkBuiltinCall,hk,hsplit]
 refine wpAny_bind ?_
 ·unfold isInstance
  repeat (first | (with_reducible refine wpAny_loadPart_at hx ?_; rw [hc]) | (with_reducible refine wpAny_bind (LS.at ?_)) | (with_reducible refine LS.at ?_) | wp_step)
  exact hq
theorem class_call_exc {tk:Tok} {R:Result→Shared→Prop} (X:K.In h) (k:ExK K C) (hx:h.get? a=some o) (hc:o.cls=.ref C) (hq:R (.ok (.ret (.ref C))) ⟨h,g,d,t,os⟩) :
  codeAny (model prog w) A (.call (.builtin "BaseException.__getattribute__") ⟨[.ref a,.str "__class__" tk],[]⟩) R ⟨h,g,d,t,os⟩ :=
 codeAny_call_builtin F.attr_ValueError.ga.plain F.entry_bexc_ga (class_check_exc X k hx hc (class_entry_exc X k hx hc hq))
theorem class_by_exc {tk:Tok} {Q:Value→Shared→Prop} (X:K.In h) (k:ExK K C) (hx:h.get? a=some o) (hc:o.cls=.ref C) (hq:Q (.ref C) ⟨h,g,d,t,os⟩) :
  wpAny (model prog w) A (getAttrBy (.ref a) (.str "__class__" tk) false) Q E ⟨h,g,d,t,os⟩:=by
 have f3:=F.attr_ValueError.ga.bind (.ref a)
 have L1:=W.looks_findIn (M:=model prog w) X k.ga
 have L2:=W.looks_findIn (M:=model prog w) X k.gn
 have hx2:(Value.builtin "BaseException.__getattribute__" == Value.builtin "object.__getattribute__")=false:=by decide +kernel
 have hx1:(onTheHeap (Value.ref C) && Value.builtin "BaseException.__getattribute__" == Value.builtin "object.__getattribute__")=false:=by rw [hx2]; rfl
 repeat (any_goals (first | assumption | (with_reducible refine wpAny_loadPart_at hx ?_; rw [hc]) | (with_reducible refine wpAny_bind (L1.at ?_)) | (with_reducible refine wpAny_bind (L2.at ?_)) | wp_step))
 refine class_call_exc X k hx hc ?_
 repeat (any_goals (first | assumption | wp_step))
theorem class_attr_exc {Q:Option Value→Shared→Prop} (X:K.In h) (k:ExK K C) (hx:h.get? a=some o) (hc:o.cls=.ref C) (hq:Q (some (.ref C)) ⟨h,g,d,t + 1,os⟩) :
  wpAny (model prog w) A (getAttr? (.ref a) "__class__") Q E ⟨h,g,d,t,os⟩:=by
 unfold getAttr? getAttrBy?
 repeat (any_goals (first | assumption | with_reducible apply class_by_exc X k hx hc | wp_step))
end
theorem kitx_exc {K:W.Frag} {a C:Addr} (k:ExK K C):W.KitX K (.ref a) (.ref C) (ExcAt a (.ref C)) where
 ty:=fun _ _ _ e=>excAt_looks e
 it:=fun _ _ X _=>by
  have hcD:=k.cl
  unfold W.clsIn at hcD
  split at hcD
  ·rename_i c' d' cd' sl' ho
   intro A' Q' E' s' kk q
   unfold isType loadHead
   exact wpAny_bind (wpAny_loadPart (kk _ _ (X _ _ ho)) (wpAny_pure q))
  ·cases hcD
 ne:=fun h tp dd its n sl X htp=>by
  have hcD:=k.cl
  refine Bool.eq_false_iff.mpr fun q=>?_
  have e:C=tp:=Value.ref.inj (beq_iff_eq.mp q)
  subst e
  unfold W.clsIn at hcD
  split at hcD
  ·rename_i c' d' cd' sl' ho
   have z:=(X _ _ ho).symm.trans htp
   cases z
  ·cases hcD
 ca:=fun {_ _ _ _ _ s} X e q=>by
  obtain ⟨oe,vs,h1,h2,_⟩:=e
  obtain ⟨h,g,d,t,os⟩:=s
  exact class_attr_exc X k h1 h2 q
inductive TyX (K:W.Frag) (H:Hp):V→Value→Prop where
 | of {x:V} {t:Value} (e:TyOf K H x t):TyX K H x t
 | exc {a C:Addr} (e:H a=some (.ext (ExcAt a (.ref C)))) (k:ExK K C):TyX K H (.ref a) (.ref C)
def clsV:V→Option Value
 | .ty n=>some (.type n)
 | .ref a=>some (.ref a)
 | _=>none
theorem clsV_rel {v:V} {c u:Value} (e:clsV v=some c) (r:RelV v u):u=c:=by
 cases v <;> cases e <;> exact r
theorem call_isinst {X:Cx}:CallR X (.builtin "isinstance") (fun xs H Q=>∃ x cv c t b,xs=[x,cv]∧clsV cv=some c∧TyX X.K H x t∧W.kitOne X.K t c=some b∧Q (.bl b) H):=by
 intro pins s σ H xs us Q I r h
 obtain ⟨x,cv,c,t,b,rfl,ec,ty,ek,q⟩:=h
 obtain ⟨u,u2,rfl,rx,rc⟩:=vals2 r
 obtain rfl:=clsV_rel ec rc
 cases ty with
 | of ty=>exact isinst_ok I rx ty ek fun tk=>⟨.bl b,H,I.tok tk,rfl,q⟩
 | @exc a C e k =>
  cases (show u=Value.ref a from rx)
  obtain ⟨ea,_,_⟩:=(show ObjOk X.prog X.w H s.heap a (.ext (ExcAt a (.ref C))) from I.hok a _ e)
  exact W.kia_one (kitx_exc k) I.kIn ea ek (fun z=>nomatch z) fun tk=>⟨.bl b,H,I.tok tk,rfl,q⟩
def CDivX (i j:Int):Prop:=0 < j∧j.natAbs.log2 < 9000
section
variable {X : Cx}
theorem op_fdivX:OpR X (binaryOp .FloorDiv) (rI CDivX fun i j=>.int (i / j)):=opI fun i j _ _ _ _ _ hc q=>by
 refine floordiv_int (by have:=hc.1; omega) ?_ (.inl (PyProof.noPylong_of_log2 hc.2))
 rw [Int.fdiv_eq_ediv_of_nonneg _ (by have:=hc.1; omega)]
 exact q
theorem op_mulX:OpR X (binaryOp .Mult) (rI IntMulOk fun i j=>.int (i * j)):=opI fun i j _ _ _ _ _ hc q=>mul_int q hc
def eqVs:List V→List V→Bool
 | [],[]=>true
 | x :: xs,y :: ys=>eqV x y && eqVs xs ys
 | _,_=>false
theorem eqVs_range:∀ (xs ys:List V),((List.range (min xs.length ys.length)).all (fun j=>eqV (xs.getD j .non) (ys.getD j .non)) && xs.length == ys.length)=eqVs xs ys
 | [],[]=>rfl
 | [],_ :: _=>by simp [eqVs]
 | _ :: _,[]=>by simp [eqVs]
 | x :: xs,y :: ys=>by
  have ih:=eqVs_range xs ys
  simp only [List.length_cons,Nat.add_min_add_right,List.range_succ_eq_map,List.all_cons,List.all_map,List.getD_cons_zero,eqVs]
  rw [← ih]
  simp only [Function.comp_def,List.getD_cons_succ,Bool.and_assoc]
  congr 2
  simp
def rEqT (K:W.Frag):R2:=fun x y H Q=>∃ a b xs ys,x=.ref a∧y=.ref b∧SqT K H a xs∧SqT K H b ys∧xs.all flatV=true∧ys.all flatV=true∧Q (.bl (eqVs xs ys)) H
def rNeT (K:W.Frag):R2:=fun x y H Q=>∃ a b xs ys,x=.ref a∧y=.ref b∧SqT K H a xs∧SqT K H b ys∧xs.all flatV=true∧ys.all flatV=true∧Q (.bl (!eqVs xs ys)) H
theorem eqT_items {A:Around} {s:Shared} {xs ys:List V} {us ws:List Value} (r:Vals xs us) (q:Vals ys ws) (fx:xs.all flatV=true) (fy:ys.all flatV=true) :
  ∀ j (h1:j < us.toArray.size) (h2:j < ws.toArray.size),SeqAt.EqAt A s us.toArray[j] ws.toArray[j] (eqV (xs.getD j .non) (ys.getD j .non)):=fun j h1 h2=>by
 have l1:=r.length
 have l2:=q.length
 have h1':j < us.length:=by simpa using h1
 have h2':j < ws.length:=by simpa using h2
 have e1:xs[j]?=some (xs[j]'(by omega)):=List.getElem?_eq_getElem (by omega)
 have e2:ys[j]?=some (ys[j]'(by omega)):=List.getElem?_eq_getElem (by omega)
 obtain ⟨u,eu,ru⟩:=r.get e1
 obtain ⟨v,ev,rv⟩:=q.get e2
 have eu':us.toArray[j]=u:=by
  rw [List.getElem?_eq_getElem h1'] at eu
  simpa using Option.some.inj eu
 have ev':ws.toArray[j]=v:=by
  rw [List.getElem?_eq_getElem h2'] at ev
  simpa using Option.some.inj ev
 rw [eu',ev',List.getD_eq_getElem?_getD,List.getD_eq_getElem?_getD,e1,e2]
 exact eqAt_V ru rv (List.all_eq_true.mp fx _ (List.getElem_mem _)) (List.all_eq_true.mp fy _ (List.getElem_mem _))
theorem op_eqT (hu:X.A.units < cLine):OpR X (compareOp .Eq) (rEqT X.K):=by
 intro pins s σ H x y v u Q I rx ry h
 obtain ⟨a,b,xs,ys,rfl,rfl,ha,hb,fx,fy,q⟩:=h
 cases rx
 cases ry
 obtain ⟨us,r,pa,_⟩:=I.tuple ha
 obtain ⟨ws,r2,pb,_⟩:=I.tuple hb
 refine SeqAt.eq_tupleAt pa pb hu (eqT_items r r2 fx fy) ⟨.bl _,H,I,rfl,?_⟩
 rw [show us.toArray.size=xs.length by rw [r.length]; simp,show ws.toArray.size=ys.length by rw [r2.length]; simp,eqVs_range]
 exact q
theorem op_neT (hu:X.A.units < cLine):OpR X (compareOp .NotEq) (rNeT X.K):=by
 intro pins s σ H x y v u Q I rx ry h
 obtain ⟨a,b,xs,ys,rfl,rfl,ha,hb,fx,fy,q⟩:=h
 cases rx
 cases ry
 obtain ⟨us,r,pa,_⟩:=I.tuple ha
 obtain ⟨ws,r2,pb,_⟩:=I.tuple hb
 refine SeqAt.RcNeAt.tuples pa pb hu (eqT_items r r2 fx fy) _ _ _ _ ⟨.bl _,H,I,rfl,?_⟩
 rw [show us.toArray.size=xs.length by rw [r.length]; simp,show ws.toArray.size=ys.length by rw [r2.length]; simp,eqVs_range]
 exact q
end
section
variable {X : Cx} {e : Expr} {te : TE} {pos p3 p4 : Pos} {c : Str} {k : Nat}
def tFstr (c:Str) (te:TE):TE:=fun σ H Q=>c.length≤1000∧te σ H fun x H1=>∃ i,x=.int i∧i.natAbs.log2 < 1920∧∀ z:Str,Q (.str z) H1
theorem line4000 {n:Nat} (h:n≤4000):n≤sizeLine:=by rw [sizeLine_eq]; omega
theorem pe_fstr2 (he:PE X e te):PE X (.JoinedStr [.Constant (.str c) k p3,.FormattedValue e (-1) none p4] pos) (tFstr c te):=by
 intro pins s σ H Q I h
 obtain ⟨hc,h⟩:=h
 have z0:Str.empty.length=0:=rfl
 refine JoinedStr_many (joinParts_cons (Calls.Constant_str ?_))
 have I0:Inv X pins σ H { s with toks:=s.toks + 1 }:=I.tok _
 refine ⟨line4000 (by rw [strLen_append,z0]; omega),joinParts_cons (FormattedValue_plain (thn (he pins _ σ H _ I0 h) fun u s1 ⟨x,H1,I1,rx,i,ex,hi,q⟩=>?_))⟩
 subst ex
 obtain ⟨t,rfl⟩:=rx
 refine formatField_int_small hi ?_
 have hl:=int_text_length_le (k:=1920) (by decide) hi
 have hz:(Str.empty ++ c ++ Str.ofString (toString i)).length≤sizeLine:=line4000 (by rw [strLen_append,strLen_append,PySem.ofString_length,z0]; omega)
 exact ⟨hz,joinParts_nil ⟨.str _,H1,I1.tok _,⟨_,rfl⟩,q _⟩ hz⟩
end
end L2
namespace L2
open PySem PySem.Spec PyProof.Rows
structure Dn (P:Program) (w:World) (K:W.Frag) (mg:Str→Option Value) (base:Heap) (k:Nat) (x:Str) (ps:List Str) (sp:Sp):Prop where
 ex:∃ f fd,mg x=some (.ref f)∧W.keepIn K (.ref f)=true∧Binds K fd ps []∧FnOk P w K mg base (CXE P w) k f fd ps sp
structure Mth (P:Program) (w:World) (K:W.Frag) (mg:Str→Option Value) (base:Heap) (k:Nat) {ι:Type} (cl:ι→Addr) (m:Str) (ps:List Str) (sp:ι→Sp):Prop where
 ex:∀ i,Cls K (cl i)∧∃ f fd,Meth K (cl i) m f∧Binds K fd ps []∧FnOk P w K mg base (CXE P w) k f fd ps (sp i)
structure Mkr (P:Program) (w:World) (K:W.Frag) (mg:Str→Option Value) (base:Heap) (k:Nat) (x:Str) (C:Addr) (ps:List Str) (sp:Sp):Prop where
 mgx:mg x=some (.ref C)
 ex:∃ f fd,Mk K C f∧Binds K fd ps []∧FnOk P w K mg base (CXE P w) k f fd ps sp
structure Mk0 (K:W.Frag) (mg:Str→Option Value) (x:Str) (C:Addr):Prop where
 mgx:mg x=some (.ref C)
 makes:W.makesIn K C=true
 init:W.findIn K (.ref C) "__init__"=some (some (.builtin "object.__init__"))
 kp:W.keepIn K (.ref C)=true
theorem passE0 {P:Program} {w:World} {X:Cx}:Passes (CXE P w) X E0:=fun _ _ _ _ _ _ _ ⟨_,_,_,_,_,_,_,_,_,q⟩=>q.elim
section
variable {X : Cx} {k : Nat} {C : Addr} {ι : Type} {cl : ι → Addr} {ps : List Str} {sp : Sp} {spi : ι → Sp} {E : XK} {x m : Str} {p pos apos : Pos} {e o : Expr} {es : List Expr} {ta : TE} {t : TA}
def tCallD (sp:Sp) (E:XK) (t:TA):TE:=fun σ H Q=>t σ H fun vs H1=>sp vs H1 Q E
theorem pe_callD (D:Dn X.prog X.w X.K X.mg X.base k x ps sp) (hr:Room k X.A) (hg:Gl X x) (hx:Passes (CXE X.prog X.w) X E) (ha:PA X (e :: es) t) (hdb:(x == ("__debug__":Str))=false:=by decide)
  (he:starEach (e :: es) X.env=(false,eval e X.env) :: starEach es X.env:=by rfl) (hpl:(backTo pos (starEach es X.env)).any (·.1)=false:=by rfl):PE X (.Call (.Name x p) (e :: es) [] pos) (tCallD sp E t):=by
 obtain ⟨f,fd,hm,hk,hb,F⟩:=D.ex
 have z:=pe_call (p:=p) (pos:=pos) F hr hg hm hk hb .nil hx ha hdb he hpl
 unfold tCall at z
 simp only [List.append_nil] at z
 exact z
def tMethV {ι:Type} (cl:ι→Addr) (m:Str) (sp:ι→Sp) (E:XK) (ta:TE) (t:TA):TE:=fun σ H Q=>ta σ H fun x H1=>∃ i a dx fs,x=.ref a∧H1 a=some (.ins (cl i) dx fs)∧fs.lookup m=none∧t σ H1 fun vs H2=>sp i (x :: vs) H2 Q E
theorem pe_methV {pl:Sem Bool} (he:PE X o ta) (V:Mth X.prog X.w X.K X.mg X.base k cl m ps spi) (hr:Room k X.A) (hx:Passes (CXE X.prog X.w) X E) (ha:PA X (e :: es) t)
  (hst:starEach (e :: es) X.env=(false,eval e X.env) :: starEach es X.env:=by rfl) (hpl:(backTo pos (starEach es X.env)).any (·.1)=false:=by rfl)
  (ht:eval (.Call (.Attribute o m apos) (e :: es) [] pos) X.env=(do
   let ov ← eval o X.env
   standAt apos.atName
   let (f,first) ← holding [ov] (getMethod ov m pl)
   callWith pos f first (backTo pos (starEach (e :: es) X.env)) (backToKw pos (keywordEach [] X.env))):=by rfl) :
  PE X (.Call (.Attribute o m apos) (e :: es) [] pos) (tMethV cl m spi E ta t):=by
 intro pins s σ H Q I h
 refine W.methodCall_KW (pl:=pl) (thn (he pins s σ H _ I h) fun u s1 ⟨x,H1,I1,rx,i,a,dx,fs,ex,ea,l,q⟩=>?_) ht
 subst ex
 obtain rfl:u=Value.ref a:=rx
 obtain ⟨c,f,fd,hm,hb,F⟩:=V.ex i
 refine getmeth_ok I1 ea c hm l ?_
 refine W.callWith_K (first:=[.ref a]) (h₀:=X.base) I.ok.mod.kin hm.kp (thn (ha pos pins s1 σ H1 _ I1 q) fun us s2 ⟨vs,H2,I2,r,q2⟩=>⟨I2.kIn,?_⟩) hst hpl
 exact run_fn (us:=.ref a :: us) (vs:=.ref a :: vs) (dvs:=[]) F hr hb .nil hx I2 (.cons rfl r) (by rw [List.append_nil]; exact q2)
theorem pe_methV0 {pl:Sem Bool} (he:PE X o ta) (V:Mth X.prog X.w X.K X.mg X.base k cl m ps spi) (hr:Room k X.A) (hx:Passes (CXE X.prog X.w) X E)
  (ht:eval (.Call (.Attribute o m apos) [] [] pos) X.env=(do
   let ov ← eval o X.env
   standAt apos.atName
   let (f,first) ← holding [ov] (getMethod ov m pl)
   callWith pos f first (backTo pos (starEach [] X.env)) (backToKw pos (keywordEach [] X.env))):=by rfl) :
  PE X (.Call (.Attribute o m apos) [] [] pos) (tMethV cl m spi E ta tNil):=by
 intro pins s σ H Q I h
 refine W.methodCall_KW (pl:=pl) (thn (he pins s σ H _ I h) fun u s1 ⟨x,H1,I1,rx,i,a,dx,fs,ex,ea,l,q⟩=>?_) ht
 subst ex
 obtain rfl:u=Value.ref a:=rx
 obtain ⟨c,f,fd,hm,hb,F⟩:=V.ex i
 refine getmeth_ok I1 ea c hm l ?_
 exact W.callWith_K0 (first:=[.ref a]) I1.kIn hm.kp (run_fn (us:=[.ref a]) (vs:=[.ref a]) (dvs:=[]) F hr hb .nil hx I1 (.cons rfl .nil) q)
def tMakeD (C:Addr) (sp:Sp) (E:XK) (t:TA):TE:=fun σ H Q=>t σ H fun vs H1=>∀ x dx,H1 x=none→H1 dx=none→dx≠x →
 sp (.ref x :: vs) (upd (upd H1 dx (.own x)) x (.ins C dx [])) (fun v H2=>v=.non∧Q (.ref x) H2) E
theorem pe_makeD (M:Mkr X.prog X.w X.K X.mg X.base k x C ps sp) (hr:Room (k + 1) X.A) (hg:Gl X x) (hx:Passes (CXE X.prog X.w) X E) (ha:PA X (e :: es) t) (hdb:(x == ("__debug__":Str))=false:=by decide)
  (he:starEach (e :: es) X.env=(false,eval e X.env) :: starEach es X.env:=by rfl) (hpl:(backTo pos (starEach es X.env)).any (·.1)=false:=by rfl):PE X (.Call (.Name x p) (e :: es) [] pos) (tMakeD C sp E t):=by
 obtain ⟨f,fd,mk,hb,F⟩:=M.ex
 have z:=pe_make (p:=p) (pos:=pos) mk F hr hg M.mgx hb .nil hx ha hdb he hpl
 unfold tMake at z
 simp only [List.append_nil] at z
 exact z
def tMakeN (C:Addr):TE:=fun _ H Q=>∀ x dx,H x=none→H dx=none→dx≠x→Q (.ref x) (upd (upd H dx (.own x)) x (.ins C dx []))
theorem pe_makeN (M:Mk0 X.K X.mg x C) (hg:Gl X x) (hdb:(x == ("__debug__":Str))=false:=by decide):PE X (.Call (.Name x p) [] [] pos) (tMakeN C):=by
 intro pins s σ H Q I h
 refine wpAny_Call_Name_kw (ld_glob I hg M.mgx ?_ hdb)
 refine W.callWith_K0 I.kIn M.kp ?_
 have hq:=h (s.heap.objs.size + 1) s.heap.objs.size (I.hok.fresh (Nat.le_succ _)) (I.hok.fresh (Nat.le_refl _)) (Nat.ne_of_lt (Nat.lt_succ_self _))
 have I2:=Inv.made (C:=C) I
 have Y:=W.makes_of (M:=model X.prog X.w) I.kIn M.makes
 have e2:((s.heap.push W.emptyDict).push (W.instObj C s.heap.objs.size)).get? (s.heap.objs.size + 1)=some (W.instObj C s.heap.objs.size):=by
  have:=Heap.get?_push_size (s.heap.push W.emptyDict) (o:=W.instObj C s.heap.objs.size) rfl
  rwa [Heap.size_push] at this
 have t1:W.Looks (model X.prog X.w) ((s.heap.push W.emptyDict).push (W.instObj C s.heap.objs.size)) (typeOf (.ref (s.heap.objs.size + 1))) (.ref C):=(W.Looks.ld e2).andThen .now
 have t2:W.Looks (model X.prog X.w) ((s.heap.push W.emptyDict).push (W.instObj C s.heap.objs.size)) (isInstance (.ref (s.heap.objs.size + 1)) (.type "object")) true:=t1.andThen (Y.top.keeps fun b o e=>Heap.get?_push_of_some _ (Heap.get?_push_of_some _ e))
 refine wpAny_call (make_map0 I.kIn M.makes M.init (fun self=>W.Looks.of_pure (W.oi_bind self)) ?_)
 refine codeAny_call_builtin W.oi_plain W.entry_oi (@W.check_slot (model X.prog X.w) _ _ _ "object.__init__" "object" "__init__" (.ref (s.heap.objs.size + 1)) [] [] _ W.oi_kind W.oi_split t2 (W.oi_args (.ref (s.heap.objs.size + 1))) ?_)
 rw [W.oi_run]
 exact wpAny_pure (And.intro rfl ⟨.ref (s.heap.objs.size + 1),_,I2,rfl,hq⟩)
end
section
variable {P : Program} {w : World} {K : W.Frag} {mg : Str → Option Value} {base : Heap}
theorem Fun.okX {x qual:Str} {st:Stmt} {f:Addr} {fd:FuncData} {N ps:List Str} {k:Nat} {sp:Sp} (F:Fun K x qual st f fd) (S:FnScope N ps (defScope st)) (len:∀ vs H Q E,sp vs H Q E→vs.length=ps.length)
  (hbody:∀ (cdv:Value) (A:Around) (outer:List Env) (s:Shared) (H:Hp) (vs:List V) (Q:VK) (E:XK),Room k (A.deeper (envOfC qual (defScope st) s.heap.objs.size f cdv))→sp vs H Q E →
   ∃ t,PSs (cxOf (CXE P w) P w K mg base N qual (defScope st) f cdv A outer s H E) (defBody st) t∧t { nx:=fun _ H'=>Q .non H',rt:=Q } (start N vs) H):FnOk P w K mg base (CXE P w) (k + 1) f fd ps sp:=by
 obtain ⟨oc,od,kV,doc,pm,an,cdv,ct,osl,rfl,lk,hcd⟩:=F.ex
 exact fn_of lk hcd S len fun A outer s H vs Q E hr hsp=>hbody cdv A outer s H vs Q E hr hsp
theorem Fun.okN {x qual:Str} {st:Stmt} {f:Addr} {fd:FuncData} {N ps:List Str} {k:Nat} {sp:Sp} (F:Fun K x qual st f fd) (S:FnScope N ps (defScope st)) (len:∀ vs H Q E,sp vs H Q E→vs.length=ps.length)
  (hbody:∀ (cdv:Value) (A:Around) (outer:List Env) (s:Shared) (H:Hp) (vs:List V) (Q:VK) (E:XK),Room k (A.deeper (envOfC qual (defScope st) s.heap.objs.size f cdv))→sp vs H Q E →
   ∃ t,PSs (cxOf (CXE P w) P w K mg base N qual (defScope st) f cdv A outer s H E).nox (defBody st) t∧t { nx:=fun _ H'=>Q .non H',rt:=Q } (start N vs) H):FnOk P w K mg base (CXE P w) (k + 1) f fd ps sp :=
 F.okX S len fun cdv A outer s H vs Q E hr hsp=>let ⟨t,h,q⟩:=hbody cdv A outer s H vs Q E hr hsp; ⟨t,h.nox,q⟩
structure DefAt (K:W.Frag) (mg:Str→Option Value) (x:Str) (st:Stmt):Prop where
 ex:∃ f fd,mg x=some (.ref f)∧Fun K x x st f fd
structure MthAt (K:W.Frag) (C:Addr) (m qual:Str) (st:Stmt):Prop where
 ex:∃ f fd,W.findIn K (.ref C) m=some (some (.ref f))∧W.isFn K (.ref f)=true∧Fun K m qual st f fd
theorem defAt_mk {x:Str} {st:Stmt} {f:Addr} {h:Heap} {oc:Value} {od an:Option Addr} {osl:Array (Option Value)} {kV doc pm cdv ct:Value} (X:K.In h) (G:h.Ns mainGlobals mg) (a:W.nsIn K mainGlobals x=some (some (.ref f)))
  (l:K.lookup f=some ⟨oc,od,.func (W.fnOf x x (defArgs st) (defBody st) (defScope st) .none kV doc pm an cdv ct),osl⟩)
  (c:W.codeIn K cdv x=true) (k:W.keepIn K (.ref f)=true):DefAt K mg x st:=⟨f,_,W.mg_of X G a,fun_mk l c k⟩
theorem mthAt_mk {C:Addr} {m qual:Str} {st:Stmt} {f:Addr} {oc:Value} {od an:Option Addr} {osl:Array (Option Value)} {kV doc pm cdv ct:Value} (a:W.findIn K (.ref C) m=some (some (.ref f))) (i:W.isFn K (.ref f)=true)
  (l:K.lookup f=some ⟨oc,od,.func (W.fnOf m qual (defArgs st) (defBody st) (defScope st) .none kV doc pm an cdv ct),osl⟩)
  (c:W.codeIn K cdv qual=true) (k:W.keepIn K (.ref f)=true):MthAt K C m qual st:=⟨f,_,a,i,fun_mk l c k⟩
end
end L2
namespace L2
open PySem
theorem bt_len:bootBuiltins "len"=some (.builtin "len"):=by decide +kernel
theorem bt_min:bootBuiltins "min"=some (.builtin "min"):=by decide +kernel
theorem bt_max:bootBuiltins "max"=some (.builtin "max"):=by decide +kernel
theorem bt_isinstance:bootBuiltins "isinstance"=some (.builtin "isinstance"):=by decide +kernel
theorem bt_int:bootBuiltins "int"=some (.type "int"):=by decide +kernel
theorem bt_tuple:bootBuiltins "tuple"=some (.type "tuple"):=by decide +kernel
theorem bt_list:bootBuiltins "list"=some (.type "list"):=by decide +kernel
theorem bt_ValueError:bootBuiltins "ValueError"=some (.type "ValueError"):=by decide +kernel
end L2
namespace L2
theorem iteEqI {i j:Int} {A B:Prop} (h1:i=j→A) (h2:i≠j→B):if decide (V.int i=V.int j)=true then A else B :=
 ite2 (fun c=>h1 (V.int.inj (of_decide_eq_true c))) (fun c=>h2 fun z=>c (decide_eq_true (congrArg V.int z)))
theorem iteNeI {i j:Int} {A B:Prop} (h1:i≠j→A) (h2:i=j→B):if (!decide (V.int i=V.int j))=true then A else B:=by
 by_cases h:i=j
 ·rw [decide_eq_true (congrArg V.int h)]; exact iteF (h2 h)
 ·rw [decide_eq_false (fun z=>h (V.int.inj z))]; exact iteT (h1 h)
theorem iteD {c A B:Prop} [Decidable c] (h1:c→A) (h2:¬ c→B):if decide c=true then A else B :=
 ite2 (fun z=>h1 (of_decide_eq_true z)) (fun z=>h2 fun y=>z (decide_eq_true y))
theorem iteB {b:Bool} {A B:Prop} (h1:b=true→A) (h2:b=false→B):if b=true then A else B:=by
 cases b with
 | true=>exact iteT (h1 rfl)
 | false=>exact iteF (h2 rfl)
theorem same_one {H:Hp} {x:PySem.Addr} {o:HO} (h:H x=Option.none):Same H (upd H x o):=fun b u e=>by rw [upd_ne (ne_of_none e h)]; exact e
theorem same_two {H:Hp} {x dx:PySem.Addr} {o u:HO} (h:H x=Option.none) (h2:H dx=Option.none):Same H (upd (upd H dx u) x o):=fun b v e=>by rw [upd_ne (ne_of_none e h),upd_ne (ne_of_none e h2)]; exact e
theorem kit_self {K:PySem.W.Frag} {c:PySem.Value}:PySem.W.kitOne K c c=some true:=by unfold PySem.W.kitOne; rw [if_pos (beq_self_eq_true c)]
theorem Same.tup {K:PySem.W.Frag} {H H':Hp} {a:PySem.Addr} {xs:List V} (e:Same H H') (h:SqT K H a xs):SqT K H' a xs:=by
 rcases h with (h | ⟨o,h⟩) | h
 ·exact .inl (.inl (e _ _ h))
 ·exact .inl (.inr ⟨o,e _ _ h⟩)
 ·exact .inr h
end L2
namespace L2
end L2
namespace L2
open PySem
section
variable {X : Cx} {es : List Expr} {env : Env}
theorem st_Constant {c j p}:starEach (.Constant c j p :: es) env=(false,eval (.Constant c j p) env) :: starEach es env:=by rfl
theorem st_Name {c p}:starEach (.Name c p :: es) env=(false,eval (.Name c p) env) :: starEach es env:=by rfl
theorem st_BinOp {a o b p}:starEach (.BinOp a o b p :: es) env=(false,eval (.BinOp a o b p) env) :: starEach es env:=by rfl
theorem st_UnaryOp {o b p}:starEach (.UnaryOp o b p :: es) env=(false,eval (.UnaryOp o b p) env) :: starEach es env:=by rfl
theorem st_Call {a o b p}:starEach (.Call a o b p :: es) env=(false,eval (.Call a o b p) env) :: starEach es env:=by rfl
theorem st_Tuple {a o p}:starEach (.Tuple a o p :: es) env=(false,eval (.Tuple a o p) env) :: starEach es env:=by rfl
theorem st_List {a p}:starEach (.List a p :: es) env=(false,eval (.List a p) env) :: starEach es env:=by rfl
theorem st_Subscript {a b p}:starEach (.Subscript a b p :: es) env=(false,eval (.Subscript a b p) env) :: starEach es env:=by rfl
theorem st_Attribute {a b p}:starEach (.Attribute a b p :: es) env=(false,eval (.Attribute a b p) env) :: starEach es env:=by rfl
theorem st_JoinedStr {a p}:starEach (.JoinedStr a p :: es) env=(false,eval (.JoinedStr a p) env) :: starEach es env:=by rfl
end
end L2
namespace L2
end L2
namespace L2
open PySem PySem.Spec PyProof.Rows
section
variable {X : Cx} {e : Expr} {te : TE} {pos p3 p4 : Pos} {c : Str} {k : Nat}
theorem op_fdivA (ht:X.prog.given.tree=none) (hd:X.A.depth + 100 < recursionLimit) (hst:X.stack=X.env :: X.outer) (hgen:X.env.scope.isGenerator=false) (hco:X.env.scope.isCoroutine=false) :
  OpR X (binaryOp .FloorDiv) (rI (fun _ j=>0 < j) fun i j=>.int (i / j)):=by
 intro pins s σ H x y v u Q I rx ry h
 obtain ⟨i,j,rfl,rfl,hc,q⟩:=h
 obtain ⟨t,rfl⟩:=rx
 obtain ⟨t',rfl⟩:=ry
 have seer:s.heap.NoSeer:=I.ok.mod.seer.keeps I.bk
 refine floordiv_int (by omega) ?_ (.inr (PylongRoom.of I.nolimit hd (SeerAt.of seer ht (by rw [I.ok.frames,hst]) hgen hco I.ok.blt I.ok.glob)))
 rw [Int.fdiv_eq_ediv_of_nonneg _ (by omega)]
 exact ⟨.int (i / j),H,I.tok _,⟨_,rfl⟩,q⟩
end
structure InsK (K:W.Frag) (C:Addr):Prop where
 ha:W.findIn K (.ref C) "__class__"=some (some (.builtin "object.__class__"))
 hn:W.specialIn K (.builtin "object.__class__") "__get__"=some (some (.builtin "getset_descriptor.__get__"))
 htk:W.takesIn K (.builtin "object.__class__")=some true
 hm:W.mroIn K C (.type "object")=some true
theorem TyX.ins {K:W.Frag} {H:Hp} {a C dx:Addr} {fs:List (Str × V)} (e:H a=some (.ins C dx fs)) (cl:Cls K C) (i:InsK K C):TyX K H (.ref a) (.ref C):=.of (.ins e cl i.ha i.hn i.htk i.hm)
end L2
namespace L2
open PySem PySem.Spec PyProof.Rows
section
variable {P : Program} {w : World} {H : Hp} {h h' : Heap} {a : Addr} {o : HO}
theorem HOk.track (x:HOk P w H h) {ch:List Addr} (k:∀ b u,b ∉ ch→h.get? b=some u→h'.get? b=some u) (hch:∀ b∈ch,H b=none) (hn:H a=none) (new:ObjOk P w (upd H a o) h' a o):HOk P w (upd H a o) h':=fun b u e=>by
 by_cases hb:b=a
 ·subst hb; rw [upd_same] at e; cases e; exact new
 ·rw [upd_ne hb] at e
  refine (x b u e).stay (fun c v hc q=>k c v (fun z=>?_) q) (fun c q=>by rw [upd_ne (ne_of_none q hn)]; exact q) fun c xs q=>by rw [upd_ne (ne_of_none q hn)]; exact q
  have z:=hch c z
  rcases hc with rfl | hc
  ·rw [e] at z; cases z
  ·rw [hc] at z; cases z
end
def Ite (K:W.Frag) (a:Addr):It :=
 ⟨fun i H=>∃ xs x,SqL K H a xs∧xs[i]?=some x,fun i H v H'=>∃ p x,v=.ref p∧H p=none∧H'=upd H p (.tup [.int (i:Nat),x])∧∀ xs,SqL K H a xs→xs[i]?=some x,fun i H=>∃ xs,SqL K H a xs∧xs.length≤i⟩
theorem turn_enum {P:Program} {w:World} {K:W.Frag} {elts:List Expr} {kt:Nat} {pt:Pos} (a e it:Addr) (hne:e≠it):Turn P w K (.Tuple elts kt pt) (Ite K a) [e,it] e (fun i h=>(∃ old,IsEnum h e it (i:Nat) old)∧h.IsListIter it a i) where
 mem:=by simp
 obj:=fun i h st b hb=>by
  obtain ⟨⟨old,st⟩,o,e1,c,d⟩:=st
  rcases List.mem_cons.mp hb with rfl | hb
  ·exact ⟨_,st,fun v z=>by
    have z':Data.fields _=Data.cell v:=z
    cases z'⟩
  ·have e2:b=it:=by simpa using hb
   subst e2
   exact ⟨o,e1,fun v z=>by rw [d] at z; cases z⟩
 keep:=fun i h h' st k=>⟨let ⟨old,st⟩:=st.1; ⟨old,k e (by simp) _ st⟩,st.2.at fun o q=>k it (by simp) o q⟩
 item:=by
  intro X hP hw hK hc i pins s σ H E I hf st hg
  subst hP hw hK
  obtain ⟨xs,x,hq,hx⟩:=hg
  obtain ⟨its,rv,p,hz⟩:=I.list hq
  obtain ⟨u,hu,ru⟩:=rv.get hx
  obtain ⟨⟨old,st1⟩,st2⟩:=st
  refine wpAny_pyNext_enum_item st1 st2 p.isList (x:=u) (by simpa using hu) hne fun h1 heo hit1 ht1 hz1 hk1=>?_
  refine ⟨_,rfl,wpAny_letOwnedTupleGo_enum heo fun h2 he2 hs2=>?_⟩
  replace hs2:Heap.SameBut e h1 h2:=hs2
  have hp:H s.heap.objs.size=none:=I.hok.fresh (Nat.le_refl _)
  have le:e < s.heap.objs.size:=Heap.lt_size st1
  have ht2:h2.get? s.heap.objs.size=some { cls:=.type "tuple",data:=.seq #[.int i s.toks,u] }:=(hs2.2 _ (Nat.ne_of_gt le)).trans ht1
  have kk:∀ b o,b ∉ [e,it]→s.heap.get? b=some o→h2.get? b=some o:=fun b o hb q=>by
   simp only [List.mem_cons,List.not_mem_nil,or_false,not_or] at hb
   exact hs2.extBut b o hb.1 (hk1 b o hb.1 hb.2 q)
  have nn:∀ b∈[e,it],H b=none:=fun b hb=>(hf b hb).1
  have ok2:HOk X.prog X.w (upd H s.heap.objs.size (.tup [.int (i:Nat),x])) h2:=I.hok.track (ch:=[e,it]) kk nn hp ⟨by show 2≤sizeLine; decide,[.int i s.toks,u],.cons ⟨_,rfl⟩ (.cons ru .nil),_,ht2,rfl,_,rfl⟩
  have there2:∀ b o,s.heap.get? b=some o→∃ o',h2.get? b=some o':=fun b o q=>by
   by_cases hb:b∈[e,it]
   ·rcases List.mem_cons.mp hb with rfl | hb
    ·exact ⟨_,he2⟩
    ·have e2:b=it:=by simpa using hb
     subst e2
     obtain ⟨o1,q1,_⟩:=hit1
     exact ⟨o1,hs2.extBut _ _ (Ne.symm hne) q1⟩
   ·exact ⟨o,kk b o hb q⟩
  have I1:Inv X pins σ (upd H s.heap.objs.size (.tup [.int (i:Nat),x])) { s with heap:=h2,toks:=s.toks + 1 }:=by
   refine I.step (g':=s.gens) (d':=s.drawn) (ch:=[e,it]) (fun b hb=>let ⟨_,f1,_,f3,f4,f5⟩:=hf b hb; ⟨f3,f1,f4,f5⟩) (fun b o _ _ hc q _=>kk b o hc q) (fun b o _ _ hc q _=>⟨o.slots,kk b o hc q⟩)
    (fun b o hc q n=>by rw [upd_ne (Nat.ne_of_lt (Heap.lt_size q))]; exact n) (fun b o hc q=>there2 b o q) (fun b xs q=>by rw [upd_ne (ne_of_none q hp)]; exact q) (fun b o u q=>by rw [upd_ne (ne_of_none q hp)]; exact q) (fun b ps q=>⟨#[],by rw [upd_ne (ne_of_none q hp),q]; simp⟩) (fun m hm=>?_) ok2 I.bare
   obtain ⟨o,es,ep,ho,r⟩:=hm
   refine ⟨o,es,ep,kk _ o (fun z=>?_) ho,r⟩
   exact (hf _ z).2.1 rfl
  refine ⟨.ref s.heap.objs.size,_,I1,rfl,⟨_,x,rfl,hp,rfl,fun ys hy=>by rw [I.list_inj hy hq]; exact hx⟩,⟨⟨_,he2⟩,?_⟩,fun b hb=>?_⟩
  ·exact hit1.extBut hs2.extBut (Ne.symm hne)
  ·rw [upd_ne (fun z=>?_)]
   ·exact nn b hb
   ·obtain ⟨o1,q1,_⟩:=st2
    have:=Heap.lt_size q1
    rcases List.mem_cons.mp hb with z2 | hb
    ·rw [z2] at z; exact Nat.ne_of_lt le z
    ·have e2:b=it:=by simpa using hb
     rw [e2] at z; exact Nat.ne_of_lt this z
 done:=by
  intro X hP hw hK hc i pins s σ H E I hf st hg
  subst hP hw hK
  obtain ⟨xs,hq,hx⟩:=hg
  obtain ⟨its,rv,p,hz⟩:=I.list hq
  obtain ⟨f0,f1,f2,f3,f4,f5⟩:=hf it (by simp)
  obtain ⟨⟨old,st1⟩,st2⟩:=st
  have hl:=rv.length
  exact wpAny_pyNext_enum_end (I.ok.hd hc) st1 st2 p.isList (by simp; omega) fun h' eb=>⟨rfl,I.turned (t':=s.toks) (fun b o hb e=>eb b o hb e) f0 f1 f3 f4 f5⟩
 self:=fun _ _ _ _ _ st h=>let ⟨⟨_,st⟩,_⟩:=st; wpAny_pyIter_enum st h
def iEnum (K:W.Frag) (ta:TA):TI:=fun σ H R=>ta σ H fun vs H1=>∃ a,vs=[.ref a]∧(∃ xs,SqL K H1 a xs)∧R (Ite K a) H1
theorem pi_enum {X:Cx} {elts:List Expr} {kt:Nat} {pt:Pos} {l:Expr} {ta:TA} {p pos:Pos} (hg:Gl X "enumerate") (hm:X.mg "enumerate"=none) (ha:PA X [l] ta) (hs:starEach [l] X.env=[(false,eval l X.env)]:=by rfl) :
  PI X (.Tuple elts kt pt) (.Call (.Name "enumerate" p) [l] [] pos) (iEnum X.K ta):=by
 intro pins s σ H R I h
 refine Call_ (ld_blt I hg hm boot_enumerate (PyProof.Rows.callWith_type1 (thn (ha pos pins s σ H _ I h) fun us s1 ⟨vs,H1,I1,r1,q1⟩=>?_) hs rfl))
 obtain ⟨a,e,⟨xs,hq⟩,q⟩:=q1
 subst e
 cases r1 with
 | cons r rr =>
  cases rr
  cases r
  obtain ⟨its,rv,p,hz⟩:=I1.list hq
  refine call_enumerate_list p.isList fun h' he hit hsz hk=>?_
  refine wpAny_pyIter_enum (s:={ s1 with heap:=h' }) he ?_
  refine ⟨s1.heap.objs.size + 1,[s1.heap.objs.size + 1,s1.heap.objs.size],_,_,H1,rfl,I1.kept (t':=s1.toks) hk,turn_enum a _ _ (Nat.succ_ne_self _),⟨⟨_,he⟩,hit⟩,fun b hb=>?_,q⟩
  have hb:s1.heap.objs.size≤b:=by
   rcases List.mem_cons.mp hb with rfl | hb
   ·exact Nat.le_succ _
   ·rw [List.mem_singleton.mp hb]; exact Nat.le_refl _
  exact I1.fpOk hb (I1.hok.fresh hb)
theorem for_enum {K:W.Frag} {a:Addr} {xs:List V} {g:TG} {tb:TS} {D:Ends} {σ:St} {H:Hp} (Pv:Nat→St→Hp→Prop) (h0:Pv 0 σ H) (hl:∀ i σ H,i≤xs.length→Pv i σ H→SqL K H a xs)
  (hs:∀ i x σ H p,xs[i]?=some x→Pv i σ H→H p=none→g (.ref p) σ (upd H p (.tup [.int (i:Nat),x])) fun σ2 H2=>tb { D with nx:=Pv (i + 1),ct:=Pv (i + 1),bk:=D.nx } σ2 H2) (hd:∀ σ H,Pv xs.length σ H→D.nx σ H) :
  ∃ W:Nat→Nat→St→Hp→Prop,(∃ m,W 0 m σ H)∧∀ i m σ H,W i m σ H →
   ((Ite K a).stop i H∧D.nx σ H)∨((Ite K a).go i H∧∃ N:St→Hp→Prop,(∀ σ' H',N σ' H'→∃ m',m' < m∧W (i + 1) m' σ' H')∧∀ x H',(Ite K a).yld i H x H'→g x σ H' fun σ2 H2=>tb { D with nx:=N,ct:=N,bk:=D.nx } σ2 H2):=by
 refine ⟨fun i m σ H=>m=xs.length - i∧i≤xs.length∧Pv i σ H,⟨xs.length,by simp,Nat.zero_le _,h0⟩,?_⟩
 rintro i m σ H ⟨rfl,hi,p⟩
 have q:=hl i σ H hi p
 by_cases hlt:i < xs.length
 ·refine .inr ⟨⟨xs,xs[i],q,by simp [hlt]⟩,Pv (i + 1),fun σ' H' p'=>⟨xs.length - (i + 1),by omega,rfl,hlt,p'⟩,fun v H' y=>?_⟩
  obtain ⟨pt,x,rfl,hn,rfl,y⟩:=y
  exact hs i x σ H pt (y xs q) p hn
 ·have e:i=xs.length:=by omega
  subst e
  exact .inl ⟨⟨xs,q,Nat.le_refl _⟩,hd σ H p⟩
end L2
namespace L2
open PySem PySem.Spec PyProof.Rows
structure CA where
 cl:List (Str × Addr)
 C:Addr
 s2:Shared
 H2:Hp
 fp:List Addr
 pn:List (Addr × Obj)
def compX (X:Cx) (N':List Str) (scope:Scope) (c:CA):Cx where
 prog:=X.prog
 w:=X.w
 K:=X.K
 mg:=X.mg
 base:=X.base
 A:=X.A
 N:=N'
 s₀:=c.s2
 H₀:=c.H2
 env:=compEnvC scope c.cl c.C X.env
 outer:=X.stack
 stack:=X.stack
 ex:=c.fp
 fn:=fun _=>false
 calm:=true
 pn:=c.pn
 kn:=fun _=>Option.none
 xe:=fun _ _=>False
structure CompScope (N:List Str) (osc:Scope) (k:Nat) (N':List Str) (fr:List Nat) (scope:Scope):Prop where
 kind:scope.kind=.function
 nocell:∀ y∈scope.names,y.2≠.cell
 names:∀ y∈scope.names,y.2=.local→scope.names.lookup y.1=some .local
 free:∀ y∈scope.names,y.2=.free→osc.names.lookup y.1=some .cell∨osc.names.lookup y.1=some .free
 len:N'.length=k + fr.length
 sl:fr.map (fun i=>N[i]?)=(N'.drop k).map some
 fre:∀ x∈N'.drop k,scope.names.lookup x=some .free
def clOf (names:List (Str × NameKind)) (cells:List (Str × Addr)):List (Str × Addr)→List (Str × Addr) :=
 fun acc=>names.foldl (fun acc y=>if y.2 == .free then (match cells.lookup y.1 with | some c=>(y.1,c) :: acc | none=>acc) else acc) acc
theorem closure_of {env:Env}:∀ (names:List (Str × NameKind)) (acc:List (Str × Addr)),(∀ y∈names,y.2=.free→∃ c,env.cells.lookup y.1=some c) →
  (forIn names acc fun x (r:List (Str × Addr))=>(if (x.2 == NameKind.free)=true then (do let a ← cellOf env x.1; pure (ForInStep.yield ((x.1,a) :: r))) else pure (ForInStep.yield r):Sem _))=pure (clOf names env.cells acc)
 | [],acc,_=>rfl
 | (n,k) :: r,acc,h=>by
  rw [List.forIn_cons]
  by_cases hk:k=.free
  ·subst hk
   obtain ⟨c,hc⟩:=h (n,.free) List.mem_cons_self rfl
   have ih:=closure_of r ((n,c) :: acc) fun y hy=>h y (List.mem_cons_of_mem _ hy)
   have hco:cellOf env n=pure c:=by simp only [cellOf,hc]
   simp only [beq_self_eq_true,if_true,hco,pure_bind]
   rw [ih]
   simp only [clOf,List.foldl_cons,beq_self_eq_true,if_true,hc]
  ·have hb:(k == NameKind.free)=false:=by simpa using hk
   have ih:=closure_of r acc fun y hy=>h y (List.mem_cons_of_mem _ hy)
   simp only [hb,Bool.false_eq_true,if_false,pure_bind]
   rw [ih]
   simp only [clOf,List.foldl_cons,hb,Bool.false_eq_true,if_false]
theorem closureFor_of {scope:Scope} {env:Env} (h:∀ y∈scope.names,y.2=.free→∃ c,env.cells.lookup y.1=some c):closureFor scope env=pure (clOf scope.names env.cells []):=by
 simp only [closureFor]
 have:=closure_of (env:=env) scope.names [] h
 first
 | (rw [this]; rfl)
 | (refine Eq.trans (congrArg (fun t=>t >>= _) this) ?_; rfl)
end L2
namespace L2
open PySem PySem.Spec PyProof.Rows
theorem clOf_lookup {cells:List (Str × Addr)} {x:Str}:∀ (names:List (Str × NameKind)) (acc:List (Str × Addr)),(∀ c,acc.lookup x=some c→cells.lookup x=some c)→∀ c,(clOf names cells acc).lookup x=some c→cells.lookup x=some c
 | [],_,h,c,e=>h c e
 | (n,k) :: r,acc,h,c,e=>by
  unfold clOf at e
  rw [List.foldl_cons] at e
  refine clOf_lookup r _ ?_ c e
  intro c' e'
  dsimp only at e'
  split at e'
  ·split at e'
   ·rename_i c2 hc2
    rw [List.lookup_cons] at e'
    split at e'
    ·rename_i hx
     have:x=n:=by simpa using hx
     rw [this]; rw [← e']; exact hc2
    ·exact h c' e'
   ·exact h c' e'
  ·exact h c' e'
theorem clOf_l0 {cells:List (Str × Addr)} {x:Str} {names:List (Str × NameKind)} {c:Addr} (h:(clOf names cells []).lookup x=some c):cells.lookup x=some c:=clOf_lookup names [] (fun _ z=>by simp at z) c h
theorem clOf_has {cells:List (Str × Addr)} {x:Str} {c:Addr} (hc:cells.lookup x=some c):∀ (names:List (Str × NameKind)) (acc:List (Str × Addr)),((x,NameKind.free)∈names∨(acc.lookup x).isSome=true)→((clOf names cells acc).lookup x).isSome=true
 | [],_,h=>h.elim (fun z=>nomatch z) id
 | (n,k) :: r,acc,h=>by
  unfold clOf
  rw [List.foldl_cons]
  refine clOf_has hc r _ ?_
  dsimp only
  rcases h with h | h
  ·rcases List.mem_cons.mp h with e | h
   ·cases e
    right
    rw [if_pos (by rfl),hc]
    simp [List.lookup_cons]
   ·exact .inl h
  ·right
   split
   ·split
    ·rw [List.lookup_cons]
     split
     ·rfl
     ·exact h
    ·exact h
   ·exact h
theorem relabel_free {env:Env}:∀ {names:List (Str × NameKind)} {x:Str},names.lookup x=some .free →
  (names.map fun (n,k)=>if (k == NameKind.free && env.scope.kind == .function && env.kindOf n == some .cell) then (n,NameKind.cell) else (n,k)).lookup x=some .cell ∨
  (names.map fun (n,k)=>if (k == NameKind.free && env.scope.kind == .function && env.kindOf n == some .cell) then (n,NameKind.cell) else (n,k)).lookup x=some .free
 | [],_,h=>by simp at h
 | (n,k) :: r,x,h=>by
  have ih:=@relabel_free env r x
  rw [List.map_cons]
  dsimp only
  cases hx:x == n with
  | true =>
   simp only [List.lookup_cons,hx] at h
   cases h
   split
   ·left; simp only [List.lookup_cons,hx]
   ·right; simp only [List.lookup_cons,hx]
  | false =>
   simp only [List.lookup_cons,hx] at h
   split
   ·simp only [List.lookup_cons,hx]; exact ih h
   ·simp only [List.lookup_cons,hx]; exact ih h
theorem relabel_back {env:Env}:∀ {names:List (Str × NameKind)} {x:Str},(∀ y∈names,y.2≠.cell) →
  ((names.map fun (n,k)=>if (k == NameKind.free && env.scope.kind == .function && env.kindOf n == some .cell) then (n,NameKind.cell) else (n,k)).lookup x=some .cell ∨
  (names.map fun (n,k)=>if (k == NameKind.free && env.scope.kind == .function && env.kindOf n == some .cell) then (n,NameKind.cell) else (n,k)).lookup x=some .free)→(x,NameKind.free)∈names
 | [],_,_,h=>by simp at h
 | (n,k) :: r,x,nc,h=>by
  have ih:=@relabel_back env r x fun y hy=>nc y (List.mem_cons_of_mem _ hy)
  rw [List.map_cons] at h
  dsimp only at h
  cases hx:x == n with
  | true =>
   have e:x=n:=by simpa using hx
   subst e
   by_cases hf:k=.free
   ·subst hf; exact List.mem_cons_self
   ·exfalso
    have hb:(k == NameKind.free)=false:=by simpa using hf
    rw [hb] at h
    simp only [Bool.false_and,Bool.false_eq_true,if_false,List.lookup_cons,beq_self_eq_true] at h
    rcases h with h | h
    ·exact nc (x,k) List.mem_cons_self (Option.some.inj h)
    ·exact hf (Option.some.inj h)
  | false =>
   refine List.mem_cons_of_mem _ (ih ?_)
   split at h <;> simpa only [List.lookup_cons,hx] using h
def slots (k:Nat) (fr:List Nat) (σ:St):St:=List.replicate k none ++ fr.map fun i=>(σ[i]?).join
section
variable {X : Cx} {N N' : List Str} {osc scope : Scope} {k : Nat} {fr : List Nat} {pins : List (Addr × Obj)} {σ : St} {H2 : Hp} {s2 : Shared} {fp : List Addr}
theorem comp_ok {C:Addr} {pn:List (Addr × Obj)} (S:CompScope N osc k N' fr scope) (hO:X.env.scope=osc) (hc:X.calm=true) (I:Inv X pins σ H2 s2) (hf:∀ b∈fp,FpOk X pins H2 b) (hlt:∀ b∈fp,b < s2.heap.objs.size) (hC:s2.heap.objs.size≤C) :
  (compX X N' scope ⟨clOf scope.names X.env.cells [],C,s2,H2,fp,pn⟩).Ok where
 mod:=I.ok.mod
 kind:=S.kind
 glob:=I.ok.glob
 blt:=I.ok.blt
 above:=hC
 inj:=fun x y c h1 h2=>I.ok.inj x y c (clOf_l0 h1) (clOf_l0 h2)
 has:=fun x hx=>by
  have hx:=relabel_back (env:=X.env) S.nocell hx
  have:=S.free (x,.free) hx rfl
  rw [← hO] at this
  obtain ⟨c,hc⟩:=I.ok.has x this
  exact Option.isSome_iff_exists.mp (clOf_has hc _ _ (.inl hx))
 cab:=fun x c h=>nomatch h
 hd:=fun _=>I.ok.hd hc
 frames:=I.ok.frames
 stk:=.inl rfl
 exf:=fun b hb=>⟨Nat.ne_of_lt (Nat.lt_of_lt_of_le (hlt b hb) hC),fun x c h=>(hf b hb).2.2.2.2.1 x c (clOf_l0 h)⟩
 bs:=fun b o e=>I.bs b o e
 bsz:=Nat.le_trans I.ok.bsz I.sz
 noex:=fun b o e hb=>by
  rcases (hf b hb).2.2.2.1 with z | z
  ·exact I.ok.noex b o e z
  ·exact absurd (Nat.lt_of_lt_of_le (Heap.lt_size e) (Nat.le_trans I.ok.bsz z)) (Nat.lt_irrefl _)
 exfs:=fun b hb hz=>by
  rcases List.mem_cons.mp (I.stkSub b hz) with z | z
  ·exact (hf b hb).2.1 z
  ·exact (hf b hb).2.2.1 z
 funs:=I.stack
 frf:=I.stkFree
theorem comp_inv {C:Addr} {h4:Heap} {tk:Nat} {m:Str→Option Value} {pl:List (Addr × Obj)} (S:CompScope N osc k N' fr scope) (hN:X.N=N) (hO:X.env.scope=osc) (hc:X.calm=true) (I:Inv X pins σ H2 s2) (hf:∀ b∈fp,FpOk X pins H2 b) (hlt:∀ b∈fp,b < s2.heap.objs.size) (hC:s2.heap.objs.size≤C)
  (kk:∀ b o,s2.heap.get? b=some o→h4.get? b=some o) (hn:h4.Ns C m)
  (hpl:∀ p∈pl,h4.get? p.1=some p.2∧s2.heap.objs.size≤p.1∧p.1≠C∧∀ v,p.2.data≠.cell v) :
  Inv (compX X N' scope ⟨clOf scope.names X.env.cells [],C,s2,H2,fp,X.pn ++ pins⟩) pl (slots k fr σ) H2 { s2 with heap:=h4,toks:=tk } where
 ok:=comp_ok S hO hc I hf hlt hC
 os:=rfl
 bare:=I.bare
 base:=Un.kept kk
 loc:=by
  refine ⟨m,hn,fun i x v h1 h2 _=>?_⟩
  have h1:N'[i]?=some x:=h1
  unfold slots at h2
  by_cases hi:i < k
  ·rw [List.getElem?_append_left (by simpa using hi),List.getElem?_replicate,if_pos hi] at h2
   cases h2
  ·rw [List.getElem?_append_right (by simpa using Nat.le_of_not_lt hi),List.length_replicate,List.getElem?_map] at h2
   cases hj:fr[i - k]? with
   | none=>rw [hj] at h2; cases h2
   | some j =>
    rw [hj] at h2
    have h2:(σ[j]?).join=some v:=Option.some.inj h2
    have h2:σ[j]?=some (some v):=by
     cases q:σ[j]? with
     | none=>rw [q] at h2; cases h2
     | some z=>rw [q] at h2; exact congrArg some h2
    have hd:(N'.drop k)[i - k]?=some x:=by
     rw [List.getElem?_drop]
     rw [show k + (i - k)=i by omega]
     exact h1
    have hx:N[j]?=some x:=by
     have:=congrArg (fun l=>l[i - k]?) S.sl
     simp only [List.getElem?_map,hj,hd,Option.map_some] at this
     exact Option.some.inj this
    have hfx:=S.fre x (List.mem_of_getElem? hd)
    have ho:=S.free (x,.free) (PySem.mem_of_lookup hfx) rfl
    rw [← hO] at ho
    obtain ⟨m0,hn0,hl0⟩:=I.loc
    obtain ⟨u,ru,lu⟩:=hl0 j x v (by rw [hN]; exact hx) h2 (.inr ho)
    refine ⟨u,ru,.inr ⟨relabel_free hfx,?_⟩⟩
    rcases lu with ⟨z,_⟩ | ⟨_,c,hcl,hcell⟩
    ·exfalso
     have z:X.env.scope.names.lookup x=some .local:=z
     rcases ho with ho | ho <;> (rw [show X.env.scope.names.lookup x=_ from ho] at z; cases z)
    ·obtain ⟨c',hc'⟩:=Option.isSome_iff_exists.mp (clOf_has hcl _ [] (.inl (PySem.mem_of_lookup hfx)))
     have:=clOf_l0 hc'
     rw [hcl] at this
     cases this
     obtain ⟨o,e,d⟩:=hcell
     exact ⟨_,hc',o,kk _ _ e,d⟩
 cell:=fun x c h=>by
  obtain ⟨v,o,e,d⟩:=I.cell x c (clOf_l0 h)
  exact ⟨v,o,kk _ _ e,d⟩
 free:=I.hok.fresh hC
 freeC:=fun x c h=>I.freeC x c (clOf_l0 h)
 pin:=fun p hp=>by
  rcases List.mem_append.mp hp with hp | hp
  ·obtain ⟨e,n,ne,nf,d⟩:=I.pin p hp
   refine ⟨kk _ _ e,n,Nat.ne_of_lt (Nat.lt_of_lt_of_le (Heap.lt_size e) hC),fun z=>?_,d⟩
   rcases List.mem_cons.mp (I.stkSub p.1 z) with z | z
   ·exact ne z
   ·exact nf z
  ·obtain ⟨e,a,ne,d⟩:=hpl p hp
   refine ⟨e,I.hok.fresh a,ne,fun z=>?_,d⟩
   rcases List.mem_cons.mp (I.stkSub p.1 z) with z | z
   ·exact Nat.ne_of_gt (Nat.lt_of_lt_of_le I.lt a) z
   ·exact I.nofs a z
 hok:=I.hok.kept kk
 len:=by
  unfold slots
  rw [List.length_append,List.length_replicate,List.length_map]
  exact S.len.symm
 kno:=fun _ _ z=>nomatch z
end
end L2
namespace L2
open PySem PySem.Spec PyProof.Rows
theorem compLoop_any {prog:Program} {w:World} {A:Around} {R:Result→Shared→Prop} {s:Shared} {elt target iter:Expr} {ifs:List Expr} {scope:Scope} {pos:Pos} {it acc:Value} {env:Env} (I:Nat→Shared→Prop)
  (turn:∀ n s,I n s→wpAny (model prog w) A (pyNext it) (fun r s₁=>match r with
   | none=>R (.ok .next) s₁
   | some v=>wpAny (model prog w) A (letOwnedTupleGo target it v) (fun _ s₁=>wpAny (model prog w) A (assign target env v) (fun _ s₂ =>
     wpAny (model prog w) A (forIn ifs true fun c r=>if r=true then do let ok ← isTrue c env (eval c env); pure (ForInStep.yield ok) else pure (ForInStep.yield r)) (fun ok s₃ =>
      if ok=true then wpAny (model prog w) A (eval elt env) (fun x s₄ =>
       wpAny (model prog w) A (call (.builtin "list.append") [acc,x]) (fun _ s₅=>∃ m,m < n∧I m s₅) (fun _ _=>False) s₄) (fun _ _=>False) s₃
      else ∃ m,m < n∧I m s₃) (fun _ _=>False) s₂) (fun _ _=>False) s₁) (fun _ _=>False) s₁) (fun _ _=>False) s)
  (n:Nat) (h:I n s) :
  codeAny (model prog w) A (.compLoop (.ListComp elt [⟨target,iter,ifs,0⟩] scope pos) 0 it acc env) R s:=by
 refine codeAny_loop rfl I (fun n s hI=>?_) n h
 show wpAny _ A ((compTurn (.ListComp elt [⟨target,iter,ifs,0⟩] scope pos) 0 it acc env).onRaise (fun x=>do noteFrame x env; theTreesLotGoes x)) _ _ s
 refine wpAny_noted ?_
 rw [compTurn_list]
 refine wpAny_bind (wpAny_standAt (wpAny_bind (wpAny_mono (turn n s hI) (fun r s₁ h₁=>?_) fun _ _ h'=>h'.elim)))
 cases r with
 | none=>exact wpAny_pure h₁
 | some v =>
  refine wpAny_bind (wpAny_mono h₁ (fun _ s₁ h₁=>?_) fun _ _ h'=>h'.elim)
  refine wpAny_bind (wpAny_mono h₁ (fun _ s₂ h₂=>wpAny_bind (wpAny_mono h₂ (fun ok s₃ h₃=>?_) fun _ _ h'=>h'.elim)) fun _ _ h'=>h'.elim)
  cases ok with
  | false=>exact wpAny_pure ⟨rfl,h₃⟩
  | true =>
   exact wpAny_bind (wpAny_bind (wpAny_mono h₃ (fun x s₄ h₄=>wpAny_bind (wpAny_mono h₄ (fun _ s₅ h₅=>wpAny_pure (wpAny_pure ⟨rfl,h₅⟩)) fun _ _ h'=>h'.elim)) fun _ _ h'=>h'.elim))
def PTs (X:Cx) (ifs:List Expr) (t:TT):Prop :=
 ∀ (pins:List (Addr × Obj)) (s:Shared) (σ:St) (H:Hp) (Q:Bool→Hp→Prop),Inv X pins σ H s→t σ H Q →
  wpAny (model X.prog X.w) X.A (forIn ifs true fun c r=>if r=true then do let ok ← isTrue c X.env (eval c X.env); pure (ForInStep.yield ok) else pure (ForInStep.yield r)) (TP X pins σ Q) X.xe s
def tTT:TT:=fun _ H Q=>Q true H
theorem pts_nil {X:Cx}:PTs X [] tTT:=fun _ _ _ _ _ I q=>wpAny_tests_nil ⟨_,I,q⟩
theorem pts_one {X:Cx} {c:Expr} {t:TT} (h:PT X c t):PTs X [c] t:=fun pins s σ H Q I q=>wpAny_tests_one (h pins s σ H Q I q)
section
variable {X : Cx} {N N' : List Str} {osc scope : Scope} {k : Nat} {fr : List Nat} {pins : List (Addr × Obj)} {σ : St} {H2 : Hp} {s2 : Shared} {fp : List Addr}
def lo (its:List Value) (n:Nat):Obj:={ cls:=.type "list",data:=.seq its.toArray n }
theorem comp_back {C D:Addr} {H':Hp} {s':Shared} {h'':Heap} {σ':St} {pl:List (Addr × Obj)} {ys:List V} {its:List Value} {n:Nat}
  (I:Inv X pins σ H2 s2) (hf:∀ b∈fp,FpOk X pins H2 b) (hC:s2.heap.objs.size≤C) (hD:s2.heap.objs.size≤D) (hCD:C≠D)
  (J:Inv (compX X N' scope ⟨clOf scope.names X.env.cells [],C,s2,H2,fp,X.pn ++ pins⟩) pl σ' H' s') (hp:(D,lo its n)∈pl) (r:Vals ys its) (hz:ys.length≤sizeLine) (hs:Heap.SameBut C s'.heap h'') :
  Inv X pins σ (upd H' D (.lst ys)) { s' with heap:=h'' }:=by
 have ltC:∀ b o,s2.heap.get? b=some o→b≠C:=fun b o e=>Nat.ne_of_lt (Nat.lt_of_lt_of_le (Heap.lt_size e) hC)
 have ltD:∀ b o,s2.heap.get? b=some o→b≠D:=fun b o e=>Nat.ne_of_lt (Nat.lt_of_lt_of_le (Heap.lt_size e) hD)
 obtain ⟨eD,nD,_,_,_⟩:=J.pin (D,lo its n) (List.mem_append_right _ hp)
 have u:Un (frs X.stack) fp H2 H' s2.heap s'.heap:=J.base
 have u2:Un (frs X.stack) fp H2 (upd H' D (.lst ys)) s2.heap h'':=⟨
  fun b o e n hb hx=>hs.extBut b o (ltC b o e) (u.keep b o e n hb hx),
  fun b o e n hb hx=>let ⟨sl,q⟩:=u.slot b o e n hb hx; ⟨sl,hs.extBut b _ (ltC b o e) q⟩,
  fun b o e n hx=>by rw [upd_ne (ltD b o e)]; exact u.free b o e n hx,
  fun b o e hx=>let ⟨o',q⟩:=u.there b o e hx; ⟨o',hs.extBut b _ (ltC b o e) q⟩,
  fun b xs e=>by rw [upd_ne (ne_of_none (u.tups b xs e) nD)]; exact u.tups b xs e,
  fun b o v e=>by rw [upd_ne (ne_of_none (u.frzs b o v e) nD)]; exact u.frzs b o v e,
  fun b ps e=>let ⟨m,q⟩:=u.tbls b ps e; ⟨m,by rw [upd_ne (ne_of_none q nD)]; exact q⟩⟩
 have ok2:HOk X.prog X.w (upd H' D (.lst ys)) h'':=by
  refine HOk.track (P:=X.prog) (w:=X.w) J.hok (ch:=[C]) (fun b o hb e=>hs.extBut b o (by simpa using hb) e) (fun b hb=>?_) nD ⟨hz,its,n,r,hs.extBut _ _ (Ne.symm hCD) eD⟩
  rw [List.mem_singleton.mp hb]; exact J.free
 exact I.call' (s':={ s' with heap:=h'' }) (ch:=fp) J.os u2 ok2 J.bare fun b hb=>let ⟨_,f1,_,f3,f4,f5⟩:=hf b hb; ⟨f3,f1,f4,f5⟩
end
end L2
namespace L2
open PySem PySem.Spec PyProof.Rows
def CTurn (J:It) (k:Nat) (fr:List Nat) (σ:St) (g:CA→TG) (tt:CA→TT) (te:CA→TE) (W:Nat→Nat→List V→Hp→Prop) (F:List V→Hp→Prop):Prop :=
 ∀ i m ys H,W i m ys H→ys.length≤sizeLine∧∀ ca,(J.stop i H∧F ys H)∨(J.go i H∧ys.length < sizeLine∧∃ Nx:List V→Hp→Prop,(∀ v H',Nx (ys ++ [v]) H'→∃ m',m' < m∧W (i + 1) m' (ys ++ [v]) H')∧(∀ H',Nx ys H'→∃ m',m' < m∧W (i + 1) m' ys H')∧∀ x H',J.yld i H x H'→g ca x (slots k fr σ) H' fun σ2 H2 =>
  (List.drop k σ2=fr.map (fun i=>(σ[i]?).join)∧σ2.length=k + fr.length)∧tt ca σ2 H2 fun b H3 =>
   if b=true then te ca σ2 H3 fun v H4=>Nx (ys ++ [v]) H4 else Nx ys H3)
section
variable {X : Cx} {N N' : List Str} {osc scope : Scope} {k : Nat} {fr : List Nat} {pins : List (Addr × Obj)} {σ : St} {H2 : Hp} {s2 : Shared} {fp : List Addr}
theorem slots_weak {σ2:St} (e1:List.drop k σ2=fr.map (fun i=>(σ[i]?).join)):∀ (i:Nat) v,(slots k fr σ)[i]?=some (some v)→σ2[i]?=some (some v):=fun i v h=>by
 unfold slots at h
 by_cases hi:i < k
 ·rw [List.getElem?_append_left (by simpa using hi),List.getElem?_replicate,if_pos hi] at h
  cases h
 ·rw [List.getElem?_append_right (by simpa using Nat.le_of_not_lt hi),List.length_replicate,← e1,List.getElem?_drop] at h
  rw [← h,show k + (i - k)=i by omega]
theorem comp_block {elt tg iter:Expr} {ifs:List Expr} {pos:Pos} {J:It} {it:Addr} {tn:Nat→Heap→Prop} {g:CA→TG} {tt:CA→TT} {te:CA→TE} {W:Nat→Nat→List V→Hp→Prop} {F:List V→Hp→Prop}
  {RR:Value→Addr→Result→Shared→Prop} {E:Value→Shared→Prop}
  (S:CompScope N osc k N' fr scope) (hN:X.N=N) (hO:X.env.scope=osc) (hc:X.calm=true) (I:Inv X pins σ H2 s2) (T:Turn X.prog X.w X.K tg J fp it tn) (st2:tn 0 s2.heap) (hf:∀ b∈fp,FpOk X pins H2 b)
  (hb:∀ ca,PG (compX X N' scope ca) tg (g ca)∧PTs (compX X N' scope ca) ifs (tt ca)∧PE (compX X N' scope ca) elt (te ca))
  (w0:∃ m,W 0 m [] H2) (turn:CTurn J k fr σ g tt te W F)
  (hRR:∀ D C h4 σ' H' s' pl ys its n m,s2.heap.objs.size≤C→s2.heap.objs.size≤D→C≠D→Inv (compX X N' scope ⟨clOf scope.names X.env.cells [],C,s2,H2,fp,X.pn ++ pins⟩) pl σ' H' s'→(D,lo its n)∈pl→Vals ys its→ys.length≤sizeLine →
   s'.heap.Ns C m→F ys H'→h4=s'.heap→RR (.ref D) C (.ok .next) s') :
  wpAny (model X.prog X.w) X.A (newList []) (fun acc s3=>wpAny (model X.prog X.w) X.A (newFunctionEnv scope X.env.globals (clOf scope.names X.env.cells []) [] X.env.qual none .none (some X.env)) (fun cenv s4 =>
   codeAny (model X.prog X.w) X.A (.compStart (.ListComp elt [⟨tg,iter,ifs,0⟩] scope pos) 0 (.ref it) acc { cenv with scope:=relabel scope X.env }) (RR acc cenv.locals) s4) E s3) E s2:=by
 refine wpAny_newObj_type (wpAny_newFunctionEnv S.nocell (by intro y hy; simp at hy) (fun h4 hn4 hsb4=>?_) S.kind)
 dsimp only at hn4 hsb4 ⊢
 generalize hH3:s2.heap.push { cls:=.type "list",dict:=none,data:=.seq ([]:List Value).toArray }=H3 at hn4 hsb4 ⊢
 have hCz:H3.objs.size=s2.heap.objs.size + 1:=by rw [← hH3,Heap.size_push]
 have hC:s2.heap.objs.size≤H3.objs.size:=by rw [hCz]; exact Nat.le_succ _
 have hCD:H3.objs.size≠s2.heap.objs.size:=by rw [hCz]; exact Nat.succ_ne_self _
 have hlt:∀ b∈fp,b < s2.heap.objs.size:=fun b hb=>let ⟨_,e,_⟩:=T.obj _ _ st2 b hb; Heap.lt_size e
 have kk:∀ b o,s2.heap.get? b=some o→h4.get? b=some o:=fun b o e=>hsb4.extBut b o (Nat.ne_of_lt (Nat.lt_of_lt_of_le (Heap.lt_size e) hC)) (Heap.get?_push_of_some _ (hH3 ▸ Heap.get?_push_of_some _ e))
 have hacc:h4.get? s2.heap.objs.size=some (lo [] 0):=hsb4.extBut _ _ (Ne.symm hCD) (Heap.get?_push_of_some _ (hH3 ▸ Heap.get?_push_size _ rfl))
 generalize hX':compX X N' scope ⟨clOf scope.names X.env.cells [],H3.objs.size,s2,H2,fp,X.pn ++ pins⟩=X' at hRR
 have eL:X'.env.locals=H3.objs.size:=by rw [← hX']; rfl
 have I4:∀ tk,Inv X' [(s2.heap.objs.size,lo [] 0)] (slots k fr σ) H2 { s2 with heap:=h4,toks:=tk }:=fun tk=>by
  rw [← hX']
  refine comp_inv S hN hO hc I hf hlt hC kk hn4 fun p hp=>?_
  rw [List.mem_singleton.mp hp]
  exact ⟨hacc,Nat.le_refl _,Ne.symm hCD,fun v z=>by
   have z':Data.seq _ _=Data.cell v:=z
   cases z'⟩
 have st4:tn 0 h4:=T.keep _ _ _ st2 fun b _ o e=>kk b o e
 have fpo:∀ {pl:List (Addr × Obj)} {H:Hp},(∀ b∈fp,H b=none)→(∀ p∈pl,p.1=s2.heap.objs.size)→∀ b∈fp,FpOk X' pl H b:=fun {pl H} hn hpl b hb=>by
  obtain ⟨_,f1,f2,f3,f4,f5⟩:=hf b hb
  rw [← hX']
  refine ⟨hn b hb,Nat.ne_of_lt (Nat.lt_of_lt_of_le (hlt b hb) hC),fun z=>?_,.inl hb,fun x c h=>f4 x c (clOf_l0 h),fun p hp z=>?_⟩
  ·rcases List.mem_cons.mp (I.stkSub b z) with z | z
   ·exact f1 z
   ·exact f2 z
  ·rcases List.mem_append.mp hp with hp | hp
   ·exact f5 p hp z
   ·have:=hpl p hp
    rw [z] at this
    exact Nat.ne_of_lt (hlt b hb) this
 have hcX:X'.calm=true:=by rw [← hX']; rfl
 have loop:∀ s3:Shared,(∃ tk,s3={ s2 with heap:=h4,toks:=tk }) →
   codeAny (model X.prog X.w) X.A (.compLoop (.ListComp elt [⟨tg,iter,ifs,0⟩] scope pos) 0 (.ref it) (.ref s2.heap.objs.size) (compEnvC scope (clOf scope.names X.env.cells []) H3.objs.size X.env))
    (RR (.ref s2.heap.objs.size) H3.objs.size) s3:=by
  rintro s3 ⟨tk,rfl⟩
  obtain ⟨m0,w0⟩:=w0
  refine compLoop_any (fun n s'=>∃ i ys its nn H',Inv X' [(s2.heap.objs.size,lo its nn)] (slots k fr σ) H' s'∧Vals ys its∧tn i s'.heap∧(∀ b∈fp,H' b=none)∧W i n ys H') ?_ m0
   ⟨0,[],[],0,H2,I4 tk,.nil,st4,fun b hb=>(hf b hb).1,w0⟩
  rintro n s5 ⟨i,ys,its,nn,H5,I5,r5,st5,fr5,w5⟩
  obtain ⟨hz,tca⟩:=turn i n ys H5 w5
  have e1:X'.prog=X.prog:=by rw [← hX']; rfl
  have e2:X'.w=X.w:=by rw [← hX']; rfl
  have e3:X'.K=X.K:=by rw [← hX']; rfl
  have e4:X'.A=X.A:=by rw [← hX']; rfl
  have e5:X'.xe=fun _ _=>False:=by rw [← hX']; rfl
  have e6:X'.env=compEnvC scope (clOf scope.names X.env.cells []) H3.objs.size X.env:=by rw [← hX']; rfl
  have one:∀ (its:List Value) (nn:Nat),∀ p∈[(s2.heap.objs.size,lo its nn)],p.1=s2.heap.objs.size:=fun its nn p hp=>by rw [List.mem_singleton.mp hp]
  rcases tca ⟨clOf scope.names X.env.cells [],H3.objs.size,s2,H2,fp,X.pn ++ pins⟩ with ⟨stop,fin⟩ | ⟨go,hzz,Nx,nx1,nx2,step⟩
  ·have:=T.done X' e1 e2 e3 hcX i _ s5 _ H5 (fun _ _=>False) I5 (fpo fr5 (one its nn)) st5 stop
   rw [e4] at this
   refine thn this fun r s6 ⟨hr,I6⟩=>?_
   subst hr
   obtain ⟨m,hn,_⟩:=I6.loc
   rw [eL] at hn
   exact hRR _ _ s6.heap _ H5 s6 _ ys its nn m hC (Nat.le_refl _) hCD (hX' ▸ I6) List.mem_cons_self r5 hz hn fin rfl
  ·have:=T.item X' e1 e2 e3 hcX i _ s5 _ H5 (fun _ _=>False) I5 (fpo fr5 (one its nn)) st5 go
   rw [e4] at this
   refine thn this fun r s6 ⟨u,hr,h6⟩=>?_
   subst hr
   refine thn h6 fun _ s7 ⟨x,H7,I7,r7,y7,st7,fr7⟩=>?_
   have I7':=I7.pinned (fpo fr7 (one its nn)) (T.obj _ _ st7)
   obtain ⟨bg,bt,be⟩:=hb ⟨clOf scope.names X.env.cells [],H3.objs.size,s2,H2,fp,X.pn ++ pins⟩
   rw [hX'] at bg bt be
   have:=bg _ s7 _ H7 x u _ I7' r7 (step x H7 y7)
   rw [e1,e2,e4,e5,e6] at this
   refine thn this fun _ s8 ⟨σ8,H8,I8,⟨d1,d2⟩,q8⟩=>?_
   have:=bt _ s8 σ8 H8 _ I8 q8
   rw [e1,e2,e4,e5,e6] at this
   refine thn this fun ok s9 ⟨H9,I9,q9⟩=>?_
   have wk:∀ {H:Hp} {s:Shared},Inv X' ([(s2.heap.objs.size,lo its nn)] ++ pinsAt fp s7.heap) σ8 H s→Inv X' ([(s2.heap.objs.size,lo its nn)] ++ pinsAt fp s7.heap) (slots k fr σ) H s:=fun J =>
    J.weak (by unfold slots; rw [List.length_append,List.length_replicate,List.length_map]; exact d2.symm) (slots_weak d1) fun _ _ z=>by rw [← hX'] at z; cases z
   have tnk:∀ {H:Hp} {s:Shared} {σ9:St},Inv X' ([(s2.heap.objs.size,lo its nn)] ++ pinsAt fp s7.heap) σ9 H s→tn (i + 1) s.heap∧∀ b∈fp,H b=none:=fun J=>⟨T.keep _ _ _ st7 fun b hb o e=>(J.pin (b,o) (List.mem_append_right _ (List.mem_append_right _ (mem_pinsAt hb e)))).1,fun b hb=>by
    obtain ⟨o,e,d⟩:=T.obj _ _ st7 b hb
    exact (J.pin (b,o) (List.mem_append_right _ (List.mem_append_right _ (mem_pinsAt hb e)))).2.1⟩
   cases ok with
   | false =>
    rw [if_neg Bool.false_ne_true]
    obtain ⟨m',hm,w9⟩:=nx2 _ q9
    exact ⟨m',hm,i + 1,ys,its,nn,H9,(wk I9).unpinned,r5,(tnk I9).1,(tnk I9).2,w9⟩
   | true =>
    rw [if_pos rfl]
    have:=be _ s9 σ8 H9 _ I9 q9
    rw [e1,e2,e4,e5,e6] at this
    refine thn this fun u10 s10 ⟨v,H10,I10,r10,q10⟩=>?_
    obtain ⟨m',hm,w10⟩:=nx1 _ _ q10
    have p10:=I10.pin (s2.heap.objs.size,lo its nn) (List.mem_append_right _ (List.mem_append_left _ List.mem_cons_self))
    have hl:its.length=ys.length:=r5.length.symm
    refine append_at (hsz:=by rw [List.size_toArray,hl]; exact Nat.le_of_lt hzz) p10.1 fun h11 hs11 hD11=>?_
    obtain ⟨t10,f10⟩:=tnk I10
    have J:Inv X' [] (slots k fr σ) H10 s10:=(wk I10).pins_of fun p hp=>nomatch hp
    have ck:∀ x c,X'.env.cells.lookup x=some c→c < s2.heap.objs.size:=fun x c h=>by
     rw [e6] at h
     obtain ⟨_,o,e,_⟩:=I.cell x c (clOf_l0 h)
     exact Heap.lt_size e
    have ns:X'.s₀=s2:=by rw [← hX']; rfl
    have J2:Inv X' [] (slots k fr σ) H10 { s10 with heap:=h11,toks:=s10.toks }:=J.turned (fun b o hb e=>(hs11.2 b hb).trans e) p10.2.1 (by rw [eL]; exact Ne.symm hCD) (.inr (by rw [ns]; exact Nat.le_refl _)) (fun x c h=>Nat.ne_of_lt (ck x c h)) fun p hp z=>by
     rcases List.mem_append.mp hp with hp | hp
     ·rw [← hX'] at hp
      have hp:p∈X.pn ++ pins:=hp
      exact Nat.ne_of_lt (Heap.lt_size (I.pin p hp).1) z
     ·cases hp
    refine ⟨m',hm,i + 1,ys ++ [v],its ++ [u10],nn + 1,H10,J2.pins_of fun p hp=>?_,r5.append (.cons r10 .nil),T.keep _ _ _ t10 fun b hb o e=>(hs11.2 b (Nat.ne_of_lt (hlt b hb))).trans e,f10,w10⟩
    rw [List.mem_singleton.mp hp]
    refine ⟨?_,p10.2.1,p10.2.2.1,p10.2.2.2.1,fun v z=>by
     have z':Data.seq _ _=Data.cell v:=z
     cases z'⟩
    show h11.get? s2.heap.objs.size=some (lo (its ++ [u10]) (nn + 1))
    rw [hD11]
    simp [lo]
 exact codeAny_compStart_list (loop _ ⟨_,rfl⟩) (T.self _ 0 _ _ _ st4 (loop _ ⟨_,rfl⟩))
end
end L2
namespace L2
open PySem PySem.Spec PyProof.Rows
def tComp (wi:TI) (k:Nat) (fr:List Nat) (g:CA→TG) (tt:CA→TT) (te:CA→TE):TE:=fun σ H Q=>wi σ H fun J H1=>∃ W:Nat→Nat→List V→Hp→Prop,(∃ m,W 0 m [] H1) ∧
 CTurn J k fr σ g tt te W (fun ys H=>∀ p,H p=none→Q (.ref p) (upd H p (.lst ys)))
section
variable {X : Cx} {N N' : List Str} {osc scope : Scope} {k : Nat} {fr : List Nat} {elt tg iter : Expr} {ifs : List Expr} {pos : Pos} {wi : TI} {g : CA → TG} {tt : CA → TT} {te : CA → TE}
theorem pe_comp (S:CompScope N osc k N' fr scope) (hN:X.N=N) (hO:X.env.scope=osc) (hc:X.calm=true) (hi:PI X tg iter wi)
  (hb:∀ ca,PG (compX X N' scope ca) tg (g ca)∧PTs (compX X N' scope ca) ifs (tt ca)∧PE (compX X N' scope ca) elt (te ca))
  (hs:∀ x,foldedSetIterable iter X.env x=pure x:=by intro _; rfl):PE X (.ListComp elt [⟨tg,iter,ifs,0⟩] scope pos) (tComp wi k fr g tt te):=by
 intro pins s σ H Q I h
 rw [eval_ListComp]
 have hcl:closureFor scope X.env=pure (clOf scope.names X.env.cells []):=closureFor_of fun y hy hf=>by
  have:=S.free y hy hf
  rw [← hO] at this
  exact I.ok.has y.1 this
 refine wpAny_comprehension_free (use:=none) rfl hs hcl S.kind S.names (thn (hi pins s σ H _ I h) fun v s1 h1=>thn h1 fun itv s2 h2=>?_)
 obtain ⟨it,fp,tn,J,H2,e,I2,T,st2,f2,W,w0,turn⟩:=h2
 subst e
 refine comp_block S hN hO hc I2 T st2 f2 hb w0 turn fun D C h4 σ' H' s' pl ys its n m hC hD hCD J hp r hz hn fin _=>?_
 refine ⟨m,hn,fun h'' hs''=>⟨.ref D,_,comp_back I2 f2 hC hD hCD J hp r hz hs'',rfl,fin D ?_⟩⟩
 exact (J.pin _ (List.mem_append_right _ hp)).2.1
theorem ps_setC {i:Nat} {x:Str} {pos' spos:Pos} (hNd:X.N.Nodup) (hix:X.N[i]?=some x) (hx:X.env.scope.names.lookup x=some .local) (S:CompScope N osc k N' fr scope) (hN:X.N=N) (hO:X.env.scope=osc) (hc:X.calm=true) (hi:PI X tg iter wi)
  (hb:∀ ca,PG (compX X N' scope ca) tg (g ca)∧PTs (compX X N' scope ca) ifs (tt ca)∧PE (compX X N' scope ca) elt (te ca))
  (hsw:swapsWith (.ListComp elt [⟨tg,iter,ifs,0⟩] scope pos) (some (.Name x pos')) spos.line X.env=pure true:=by rfl) (hkn:X.kn i=Option.none:=by rfl)
  (hs:∀ x,foldedSetIterable iter X.env x=pure x:=by intro _; rfl):PS X (.Assign [.Name x pos'] (.ListComp elt [⟨tg,iter,ifs,0⟩] scope pos) spos) (tAsg (tComp wi k fr g tt te) (gName i)):=by
 intro pins s σ H D0 I h
 have hcl:closureFor scope X.env=pure (clOf scope.names X.env.cells []):=closureFor_of fun y hy hf=>by
  have:=S.free y hy hf
  rw [← hO] at this
  exact I.ok.has y.1 this
 rw [exec_Assign_Name_used _ _ _ _ hsw]
 refine wpAny_bind (wpAny_standAt (wpAny_bind ?_))
 show wpAny _ X.A (do let _ ← comprehension (.ListComp elt [⟨tg,iter,ifs,0⟩] scope pos) scope X.env _ (newList []) false (eval iter X.env) (some (assign (.Name x pos') X.env))) _ _ s
 refine wpAny_bind (thn (wpAny_comprehension_free (use:=some (assign (.Name x pos') X.env)) (Q:=fun _ s'=>SP X pins D0 .next s') rfl hs hcl S.kind S.names (thn (hi pins s σ H _ I h) fun v s1 h1=>thn h1 fun itv s2 h2=>?_))
  fun _ s' hq=>wpAny_pure (wpAny_pure hq))
 obtain ⟨it,fp,tn,J,H2,e,I2,T,st2,f2,W,w0,turn⟩:=h2
 subst e
 refine comp_block S hN hO hc I2 T st2 f2 hb w0 turn fun D C h4 σ' H' s' pl ys its n m hC hD hCD J hp r hz hn fin _=>?_
 have nD:=(J.pin _ (List.mem_append_right _ hp)).2.1
 have B:Inv X pins σ (upd H' D (.lst ys)) s':=comp_back (h'':=s'.heap) I2 f2 hC hD hCD J hp r hz ⟨rfl,fun _ _=>rfl⟩
 obtain ⟨oC,es,ep,eC,dC,rC⟩:=hn
 have cL:C≠X.env.locals:=Nat.ne_of_gt (Nat.lt_of_lt_of_le I2.lt hC)
 have B2:Inv X (pins ++ [(C,oC)]) σ (upd H' D (.lst ys)) s':=B.pins_of fun p hp2=>by
  rcases List.mem_append.mp hp2 with hp2 | hp2
  ·exact B.pin p (List.mem_append_right _ hp2)
  ·rw [List.mem_singleton.mp hp2]
   exact ⟨eC,by rw [upd_ne hCD]; exact J.free,cL,I2.nofs hC,fun v z=>by rw [dC] at z; cases z⟩
 refine wpAny_assign_Name (store_ok B2 hNd hix (.inl hx) (v:=.ref D) (u:=.ref D) rfl (fun s5 I5=>?_) (.inr hx) hkn)
 have p5:=I5.pin (C,oC) (List.mem_append_right _ (List.mem_append_right _ List.mem_cons_self))
 refine ⟨m,⟨oC,es,ep,p5.1,dC,rC⟩,fun h'' hs''=>⟨_,_,(I5.unpinned).turned (t':=s5.toks) (it:=C) (fun b o hb e=>hs''.extBut b o hb e) p5.2.1 p5.2.2.1 (.inr ?_) (fun y c hy z=>?_) (fun p hp2 z=>?_),fin D nD⟩⟩
 ·exact Nat.le_trans I2.sz hC
 ·obtain ⟨_,o,e,_⟩:=I2.cell y c hy
  exact Nat.ne_of_lt (Nat.lt_of_lt_of_le (Heap.lt_size e) hC) z
 ·exact Nat.ne_of_lt (Nat.lt_of_lt_of_le (Heap.lt_size (I2.pin p hp2).1) hC) z
end
section
variable {k : Nat} {fr : List Nat} {σ : St} {g : CA → TG} {tt : CA → TT} {te : CA → TE} {F : List V → Hp → Prop} {H : Hp}
def CStep (k:Nat) (fr:List Nat) (σ:St) (g:CA→TG) (tt:CA→TT) (te:CA→TE) (ys:List V) (Nx:List V→Hp→Prop) (x:V) (H:Hp):Prop :=
 ∀ ca,g ca x (slots k fr σ) H fun σ2 H2=>(List.drop k σ2=fr.map (fun i=>(σ[i]?).join)∧σ2.length=k + fr.length)∧tt ca σ2 H2 fun b H3=>if b=true then te ca σ2 H3 fun v H4=>Nx (ys ++ [v]) H4 else Nx ys H3
theorem comp_by {J:It} {n:Nat} (Pv:Nat→List V→Hp→Prop) (hz:n < sizeLine) (h0:Pv 0 [] H) (hj:∀ i ys H,i < n→Pv i ys H→J.go i H∧∀ x H',J.yld i H x H'→CStep k fr σ g tt te ys (Pv (i + 1)) x H')
  (hd:∀ ys H,Pv n ys H→J.stop n H∧F ys H):∃ W:Nat→Nat→List V→Hp→Prop,(∃ m,W 0 m [] H)∧CTurn J k fr σ g tt te W F:=by
 refine ⟨fun i m ys H=>m=n - i∧i≤n∧ys.length≤i∧Pv i ys H,⟨n,by simp,Nat.zero_le _,Nat.zero_le _,h0⟩,?_⟩
 rintro i m ys H ⟨rfl,hi,hy,p⟩
 refine ⟨by omega,fun ca=>?_⟩
 by_cases hlt:i < n
 ·obtain ⟨go,st⟩:=hj i ys H hlt p
  refine .inr ⟨go,by omega,Pv (i + 1),fun v H' z=>⟨n - (i + 1),by omega,rfl,hlt,by rw [List.length_append,List.length_singleton]; omega,z⟩,fun H' z=>⟨n - (i + 1),by omega,rfl,hlt,by omega,z⟩,fun x H' y=>st x H' y ca⟩
 ·have e:i=n:=by omega
  subst e
  exact .inl (hd ys H p)
theorem comp_list {K:W.Frag} {a:Addr} {xs:List V} (Pv:Nat→List V→Hp→Prop) (hz:xs.length < sizeLine) (h0:Pv 0 [] H) (hl:∀ i ys H,i≤xs.length→Pv i ys H→SqL K H a xs)
  (hs:∀ i x ys H,xs[i]?=some x→Pv i ys H→CStep k fr σ g tt te ys (Pv (i + 1)) x H)
  (hd:∀ ys H,Pv xs.length ys H→F ys H):∃ W:Nat→Nat→List V→Hp→Prop,(∃ m,W 0 m [] H)∧CTurn (Itl K a) k fr σ g tt te W F:=by
 refine comp_by (n:=xs.length) Pv hz h0 (fun i ys H hi p=>⟨⟨xs,xs[i],hl i ys H (Nat.le_of_lt hi) p,by simp [hi]⟩,fun x H' ⟨e,y⟩=>?_⟩) fun ys H p=>⟨⟨xs,hl _ ys H (Nat.le_refl _) p,Nat.le_refl _⟩,hd ys H p⟩
 subst e
 exact hs i x ys _ (y xs (hl i ys _ (Nat.le_of_lt hi) p)) p
theorem comp_range {lo:Int} {n:Nat} (Pv:Nat→List V→Hp→Prop) (hz:n < sizeLine) (h0:Pv 0 [] H)
  (hs:∀ i ys H,i < n→Pv i ys H→CStep k fr σ g tt te ys (Pv (i + 1)) (.int (lo + i)) H)
  (hd:∀ ys H,Pv n ys H→F ys H):∃ W:Nat→Nat→List V→Hp→Prop,(∃ m,W 0 m [] H)∧CTurn (Itr lo n) k fr σ g tt te W F:=by
 refine comp_by (n:=n) Pv hz h0 (fun i ys H hi p=>⟨hi,fun x H' ⟨e,y⟩=>?_⟩) fun ys H p=>⟨Nat.le_refl _,hd ys H p⟩
 subst e y
 exact hs i ys _ hi p
theorem comp_enum {K:W.Frag} {a:Addr} {xs:List V} (Pv:Nat→List V→Hp→Prop) (hz:xs.length < sizeLine) (h0:Pv 0 [] H) (hl:∀ i ys H,i≤xs.length→Pv i ys H→SqL K H a xs)
  (hs:∀ i x ys H p,xs[i]?=some x→Pv i ys H→H p=none→CStep k fr σ g tt te ys (Pv (i + 1)) (.ref p) (upd H p (.tup [.int (i:Nat),x])))
  (hd:∀ ys H,Pv xs.length ys H→F ys H):∃ W:Nat→Nat→List V→Hp→Prop,(∃ m,W 0 m [] H)∧CTurn (Ite K a) k fr σ g tt te W F:=by
 refine comp_by (n:=xs.length) Pv hz h0 (fun i ys H hi p=>⟨⟨xs,xs[i],hl i ys H (Nat.le_of_lt hi) p,by simp [hi]⟩,fun v H' y=>?_⟩) fun ys H p=>⟨⟨xs,hl _ ys H (Nat.le_refl _) p,Nat.le_refl _⟩,hd ys H p⟩
 obtain ⟨pt,x,rfl,hn,rfl,y⟩:=y
 exact hs i x ys H pt (y xs (hl i ys _ (Nat.le_of_lt hi) p)) p hn
end
end L2
namespace L2
open PySem PySem.Spec PyProof.Rows
abbrev TJ:=St→Hp→(Hp→Prop)→Prop
def PJ (X:Cx) (n:Nat) (vs:List Expr) (t:TJ):Prop :=
 ∀ (pins:List (Addr × Obj)) (s:Shared) (σ:St) (H:Hp) (Q:VK) (acc:Str),acc.length + 3000 * n≤100000→Inv X pins σ H s→t σ H (fun H1=>∀ z:Str,Q (.str z) H1) →
  wpAny (model X.prog X.w) X.A (joinParts acc (evalEach vs X.env)) (EP X pins σ Q) X.xe s
section
variable {X : Cx} {e : Expr} {te : TE} {pos p3 p4 : Pos} {c : Str} {k n : Nat} {vs : List Expr} {t : TJ}
theorem line100 {n:Nat} (h:n≤100000):n≤sizeLine:=by rw [sizeLine_eq]; omega
theorem pj_nil:PJ X 0 [] (fun _ H Q=>Q H):=fun _ _ _ H Q acc ha I h=>joinParts_nil ⟨.str _,H,I.tok _,⟨_,rfl⟩,h _⟩ (line100 (by omega))
theorem pj_str (hv:PJ X n vs t):PJ X (n + 1) (.Constant (.str c) k p3 :: vs) (fun σ H Q=>c.length≤1000∧t σ H Q):=fun pins s σ H Q acc ha I ⟨hc,h⟩=>by
 show wpAny _ _ (joinParts acc (eval (.Constant (.str c) k p3) X.env :: evalEach vs X.env)) _ _ s
 refine joinParts_cons (Calls.Constant_str ?_)
 have I0:Inv X pins σ H { s with toks:=s.toks + 1 }:=I.tok _
 exact ⟨line100 (by rw [strLen_append]; omega),hv pins _ σ H Q _ (by rw [strLen_append]; omega) I0 h⟩
theorem pj_int (he:PE X e te) (hv:PJ X n vs t):PJ X (n + 1) (.FormattedValue e (-1) none p4 :: vs) (fun σ H Q=>te σ H fun x H1=>∃ i,x=.int i∧i.natAbs.log2 < 1920∧t σ H1 Q):=fun pins s σ H Q acc ha I h=>by
 show wpAny _ _ (joinParts acc (eval (.FormattedValue e (-1) none p4) X.env :: evalEach vs X.env)) _ _ s
 refine joinParts_cons (FormattedValue_plain (thn (he pins _ σ H _ I h) fun u s1 ⟨x,H1,I1,rx,i,ex,hi,q⟩=>?_))
 subst ex
 obtain ⟨t,rfl⟩:=rx
 refine formatField_int_small hi ?_
 have hl:=int_text_length_le (k:=1920) (by decide) hi
 have hz:(acc ++ Str.ofString (toString i)).length + 3000 * n≤100000:=by rw [strLen_append,PySem.ofString_length]; omega
 exact ⟨line100 (by omega),hv pins _ σ H1 Q _ hz (I1.tok _) q⟩
def tFsN (t:TJ):TE:=fun σ H Q=>t σ H fun H1=>∀ z:Str,Q (.str z) H1
theorem pe_fstrN {v1 v2:Expr} (hv:PJ X n (v1 :: v2 :: vs) t) (hn:n≤20:=by decide):PE X (.JoinedStr (v1 :: v2 :: vs) pos) (tFsN t):=fun pins s σ H Q I h =>
 JoinedStr_many (hv pins s σ H Q Str.empty (by have:Str.empty.length=0:=rfl; omega) I h)
end
end L2
namespace L2
open PySem PySem.Spec PyProof.Rows
section
variable {env : Env} {es : List Expr}
theorem st_ListComp {a b c p}:starEach (.ListComp a b c p :: es) env=(false,eval (.ListComp a b c p) env) :: starEach es env:=by rfl
end
end L2
namespace L2
def STup (H H':Hp):Prop:=∀ p xs,H p=some (.tup xs)→H' p=some (.tup xs)
theorem same_st {H H':Hp} (e:Same H H'):STup H H':=fun p _ h=>e p _ h
theorem STup.trans {H H' H'':Hp} (e:STup H H') (e':STup H' H''):STup H H'':=fun p xs h=>e' p xs (e p xs h)
theorem stup_lst {H:Hp} {l:PySem.Addr} {ys:List V} {o:HO} (h:H l=some (.lst ys)):STup H (upd H l o):=fun p xs e=>by
 rw [upd_ne (ne_of e h (by intro z; cases z))]; exact e
theorem same_upd {H H':Hp} {l:PySem.Addr} {o:HO} (e:Same H H') (n:H l=Option.none):Same H (upd H' l o):=fun p u h=>by
 rw [upd_ne (ne_of_none h n)]; exact e p u h
theorem same_none {H H':Hp} {l:PySem.Addr} (e:Same H H') (n:H' l=Option.none):H l=Option.none:=by
 cases h:H l with
 | none=>rfl
 | some o=>rw [e _ _ h] at n; cases n
theorem same_lst {K:PySem.W.Frag} {H H':Hp} {a:PySem.Addr} {xs:List V} (e:Same H H') (h:SqL K H a xs):SqL K H' a xs:=by
 rcases h with (h | ⟨o,h⟩) | h
 ·exact .inl (.inl (e _ _ h))
 ·exact .inl (.inr ⟨o,e _ _ h⟩)
 ·exact .inr h
end L2
namespace L2
open PySem PySem.Spec PyProof.Rows
def Alike (K:W.Frag) (H:Hp):Nat→V→V→Prop
 | 0,x,y=>x=y∧((∃ a,x=.ref a)∨flatV x=true)
 | n + 1,x,y=>(x=y∧((∃ a,x=.ref a)∨flatV x=true))∨∃ a b xs ys,x=.ref a∧y=.ref b∧((SqL K H a xs∧SqL K H b ys)∨(SqT K H a xs∧SqT K H b ys))∧Paired (Alike K H n) xs ys
theorem eqV_refl {x:V} (h:flatV x=true):eqV x x=true:=by cases x <;> simp_all [flatV,eqV]
theorem alike_flat {A:Around} {s:Shared} {x:V} {u v:Value} (h:(∃ a,x=.ref a)∨flatV x=true) (ru:RelV x u) (rv:RelV x v):SeqAt.EqAt A s u v true:=by
 rcases h with ⟨a,rfl⟩ | h
 ·cases ru; cases rv; exact SeqAt.EqAt.same _
 ·have:=eqAt_V (A:=A) (s:=s) ru rv h h
  rw [eqV_refl h] at this
  exact this
theorem vals_at {xs:List V} {us:List Value} (r:Vals xs us) (j:Nat) (h:j < us.toArray.size):∃ x,xs[j]?=some x∧RelV x us.toArray[j]:=by
 have l:=r.length
 have h':j < us.length:=by simpa using h
 have e1:xs[j]?=some (xs[j]'(by omega)):=List.getElem?_eq_getElem (by omega)
 obtain ⟨u,eu,ru⟩:=r.get e1
 refine ⟨_,e1,?_⟩
 rw [List.getElem?_eq_getElem h'] at eu
 have:us.toArray[j]=u:=by simpa using Option.some.inj eu
 rw [this]; exact ru
theorem paired_at {α β:Type} {F:α→β→Prop}:∀ {xs:List α} {ys:List β} {i:Nat} {x:α} {y:β},Paired F xs ys→xs[i]?=some x→ys[i]?=some y→F x y
 | _ :: _,_ :: _,0,_,_,.cons h _,e,e'=>by simp at e e'; subst e; subst e'; exact h
 | _ :: _,_ :: _,i + 1,_,_,.cons _ t,e,e'=>paired_at (i:=i) t (by simpa using e) (by simpa using e')
theorem all_true (n:Nat):(List.range n).all (fun _=>true)=true:=by simp
section
variable {X : Cx} {pins : List (Addr × Obj)} {σ : St} {H : Hp} {s : Shared}
theorem alike_eqAt (I:Inv X pins σ H s):∀ (n:Nat) (A:Around) (x y:V) (u v:Value),A.units + n < cLine→Alike X.K H n x y→RelV x u→RelV y v→SeqAt.EqAt A s u v true
 | 0,A,x,y,u,v,_,h,ru,rv=>by
  obtain ⟨rfl,h⟩:=h
  exact alike_flat h ru rv
 | n + 1,A,x,y,u,v,hA,h,ru,rv=>by
  rcases h with ⟨rfl,h⟩ | ⟨a,b,xs,ys,rfl,rfl,h,p⟩
  ·exact alike_flat h ru rv
  ·cases ru
   cases rv
   by_cases hab:a=b
   ·subst hab; exact SeqAt.EqAt.same _
   ·have items:∀ {us ws:List Value},Vals xs us→Vals ys ws→∀ j (h1:j < us.toArray.size) (h2:j < ws.toArray.size),SeqAt.EqAt A.in1 s us.toArray[j] ws.toArray[j] ((fun _=>true) j):=fun r q j h1 h2=>by
     obtain ⟨x,ex,rx⟩:=vals_at r j h1
     obtain ⟨y,ey,ry⟩:=vals_at q j h2
     exact alike_eqAt I n A.in1 x y _ _ (by show A.units + 1 + n < cLine; omega) (paired_at p ex ey) rx ry
    have ln:=p.length
    rcases h with ⟨ha,hb⟩ | ⟨ha,hb⟩
    ·obtain ⟨us,r,pa,_⟩:=I.list ha
     obtain ⟨ws,q,pb,_⟩:=I.list hb
     have:=SeqAt.RcAt.lists (A:=A) (s:=s) pa.isList pb.isList (by rw [List.size_toArray,List.size_toArray,← r.length,← q.length,ln]) (by omega) (items r q)
     rw [all_true] at this
     exact SeqAt.EqAt.of_refs hab this
    ·obtain ⟨us,r,pa,_⟩:=I.tuple ha
     obtain ⟨ws,q,pb,_⟩:=I.tuple hb
     have:=SeqAt.RcAt.tuples (A:=A) (s:=s) pa pb (by omega) (items r q)
     have e:us.toArray.size=ws.toArray.size:=by rw [List.size_toArray,List.size_toArray,← r.length,← q.length,ln]
     rw [all_true,e,beq_self_eq_true] at this
     exact SeqAt.EqAt.of_refs hab this
theorem alike_items {n:Nat} (I:Inv X pins σ H s) {xs ys:List V} {us ws:List Value} (hA:X.A.units + (n + 1) < cLine) (p:Paired (Alike X.K H n) xs ys) (r:Vals xs us) (q:Vals ys ws) :
  ∀ j (h1:j < us.toArray.size) (h2:j < ws.toArray.size),SeqAt.EqAt X.A.in1 s us.toArray[j] ws.toArray[j] ((fun _=>true) j):=fun j h1 h2=>by
 obtain ⟨x,ex,rx⟩:=vals_at r j h1
 obtain ⟨y,ey,ry⟩:=vals_at q j h2
 exact alike_eqAt I n X.A.in1 x y _ _ (by show X.A.units + 1 + n < cLine; omega) (paired_at p ex ey) rx ry
def rAlL (K:W.Frag) (n:Nat) (b:Bool):R2:=fun x y H Q=>∃ l m xs ys,x=.ref l∧y=.ref m∧SqL K H l xs∧SqL K H m ys∧Paired (Alike K H n) xs ys∧Q (.bl b) H
end
section
variable {X : Cx} {n : Nat}
theorem op_eqAL (n:Nat) (hA:X.A.units + (n + 1) < cLine):OpR X (compareOp .Eq) (rAlL X.K n true):=by
 intro pins s σ H x y v u Q I rx ry h
 obtain ⟨l,m,xs,ys,rfl,rfl,ha,hb,p,q⟩:=h
 cases rx
 cases ry
 obtain ⟨us,r,pa,_⟩:=I.list ha
 obtain ⟨ws,r2,pb,_⟩:=I.list hb
 refine SeqAt.eq_listAt pa.isList pb.isList (by rw [List.size_toArray,List.size_toArray,← r.length,← r2.length,p.length]) (by omega) (alike_items I hA p r r2) ⟨.bl true,H,I,?_,q⟩
 rw [all_true]; rfl
theorem Room.al {k:Nat} {A:Around} (r:Room k A) (n:Nat) (h:n≤50:=by decide):A.units + (n + 1) < cLine:=by have:=r.un; omega
theorem alike_self {K:W.Frag} {H:Hp}:∀ {xs:List V},(∀ x∈xs,(∃ a,x=.ref a)∨flatV x=true)→Paired (Alike K H 0) xs xs
 | [],_=>.nil
 | x :: _,h=>.cons ⟨rfl,h x List.mem_cons_self⟩ (alike_self fun y hy=>h y (List.mem_cons_of_mem _ hy))
end
end L2
namespace L2
theorem seqK {A B:TS} {D:Ends} {σ:St} {H:Hp} (Mid:St→Hp→Prop) (hA:∀ nx:St→Hp→Prop,(∀ σ H,Mid σ H→nx σ H)→A { D with nx:=nx } σ H) (hB:∀ σ H,Mid σ H→B D σ H):tSeq A B D σ H:=hA (B D) hB
end L2
namespace L2
open PySem PySem.Spec PyProof.Rows
structure RoomH (k:Nat) (A:Around):Prop where
 dp:A.depth + 3 * k + 5 < recursionLimit
 un:A.units + 16 * k + 200 < cLine
 gd:A.guards=some []
theorem Room.h {k:Nat} {A:Around} (r:Room k A):RoomH k A:=⟨r.dp,r.un,r.gd⟩
theorem RoomH.mark {k:Nat} {A:Around} {v:Option Value} (r:RoomH k A):RoomH k (A.mark v):=⟨r.dp,r.un,r.gd⟩
theorem RoomH.deeper {k:Nat} {A:Around} (r:RoomH (k + 1) A) (env:Env):RoomH k (A.deeper env) :=
 ⟨by have:=r.dp; show A.depth + 1 + 3 * k + 5 < _; omega,by have:=r.un; show A.units + 3 + 16 * k + 200 < _; omega,r.gd⟩
structure FnOkH (P:Program) (w:World) (K:W.Frag) (mg:Str→Option Value) (base:Heap) (CX:CXT) (k:Nat) (f:Addr) (fd:FuncData) (ps:List Str) (sp:Sp):Prop where
 len:∀ vs H Q E,sp vs H Q E→vs.length=ps.length
 run:∀ (A:Around) (outer:List Env) (s:Shared) (H:Hp) (args:Args) (us:List Value) (vs:List V) (Q:VK) (E:XK),RoomH k A→Env0 P w K mg base A outer s H→BindsTo s fd args (ps.zip us)→Vals vs us→sp vs H Q E →
  codeAny (model P w) A (.call (.ref f) args) (CR CX outer P w H s Q E) s
abbrev Cx.dull (X:Cx):Cx:={ X with calm:=false,xe:=fun _ _=>False }
theorem inv_startH {CX:CXT} {P:Program} {w:World} {K:W.Frag} {mg:Str→Option Value} {base:Heap} {N ps:List Str} {qual:Str} {scope:Scope} {f:Addr} {cd:Value} {A:Around} {outer:List Env} {s s1:Shared} {H:Hp} {E:XK} {us:List Value} {vs:List V}
  (S:FnScope N ps scope) (e0:Env0 P w K mg base A outer s H) (hl:vs.length=ps.length) (r:Vals vs us)
  (x:InCallC s s.heap.objs.size (bindL (envOfC qual scope s.heap.objs.size f cd).kindOf (ps.zip us) fun _=>none) (cellsFrom (s.heap.objs.size + 1) scope.names []) (bindC (envOfC qual scope s.heap.objs.size f cd).kindOf (ps.zip us) fun _=>none) s1) :
  Inv (cxOf CX P w K mg base N qual scope f cd A outer s H E).dull [] (start N vs) H s1:=by
 have I:=inv_start (CX:=CX) (E:=E) (A:={ A with handled:=none }) S rfl ⟨e0.frames,e0.mod,e0.bs,e0.bsz,e0.funs,e0.frf,e0.hok,e0.bare⟩ hl r x
 have ok:=I.ok
 exact ⟨⟨ok.mod,ok.kind,ok.glob,ok.blt,ok.above,ok.inj,ok.has,ok.cab,(fun z=>nomatch z),ok.frames,ok.stk,ok.exf,ok.bs,ok.bsz,ok.noex,ok.exfs,ok.funs,ok.frf⟩,
  I.os,I.bare,I.base,I.loc,I.cell,I.free,I.freeC,I.pin,I.hok,I.len,I.kno⟩
theorem fn_ofH {CX:CXT} {P:Program} {w:World} {K:W.Frag} {mg:Str→Option Value} {base:Heap} {k:Nat} {f:Addr} {name qual:Str} {params:Arguments} {body:List Stmt} {scope:Scope} {dV kV doc pm cdv ct oc:Value} {an od:Option Addr}
  {osl:Array (Option Value)} {N ps:List Str} {sp:Sp} (lk:K.lookup f=some ⟨oc,od,.func (W.fnOf name qual params body scope dV kV doc pm an cdv ct),osl⟩) (hcd:W.codeIn K cdv qual=true) (S:FnScope N ps scope)
  (len:∀ vs H Q E,sp vs H Q E→vs.length=ps.length)
  (hbody:∀ (A:Around) (outer:List Env) (s:Shared) (H:Hp) (vs:List V) (Q:VK) (E:XK),RoomH k (A.deeper (envOfC qual scope s.heap.objs.size f cdv))→sp vs H Q E →
   ∃ t,PSs (cxOf CX P w K mg base N qual scope f cdv A outer s H E).dull body t∧t { nx:=fun _ H'=>Q .non H',rt:=Q } (start N vs) H) :
  FnOkH P w K mg base CX (k + 1) f (W.fnOf name qual params body scope dV kV doc pm an cdv ct) ps sp:=by
 refine ⟨len,fun A outer s H args us vs Q E hr e0 hb r hsp=>?_⟩
 have hl:=len _ _ _ _ hsp
 have KX:K.In s.heap:=e0.mod.kin.keeps fun b o e=>(e0.bs b o e).1
 have lim:s.heap.NoLimit:=e0.mod.nolimit.keeps fun b o e=>(e0.bs b o e).1
 have hkind:∀ y∈ps.zip us,scope.names.lookup y.1=some .local∨(scope.names.lookup y.1=some .cell∧((cellsFrom (s.heap.objs.size + 1) scope.names []).lookup y.1).isSome=true):=fun ⟨n,v⟩ hy=>by
  rcases S.par n (List.of_mem_zip hy).1 with q | q
  ·exact .inl q
  ·exact .inr ⟨q,W.cellsFrom_some _ _ _ (.inl q)⟩
 refine codeAny_call_function (by have:=hr.dp; omega) (KX _ _ lk) rfl S.co S.gen rfl (W.codeRec_of KX hcd) (hb _ _ _ _ ?_)
 refine wpAny_newFunctionEnv_cells S.kind hkind fun env he s1 x=>?_
 subst he
 refine ⟨lim.keeps x.toInCall.keep,codeAny_func ?_⟩
 obtain ⟨t,ht,hq⟩:=hbody A outer s H vs Q E (hr.deeper _) hsp
 have I:Inv (cxOf CX P w K mg base N qual scope f cdv A outer s H E).dull [] (start N vs) H s1:=inv_startH S e0 hl r x
 refine wpAny_mono (ht [] s1 (start N vs) H _ I hq) (fun fl s' hs=>?_) fun e s' hs=>hs.elim
 have fin:∀ {σ':St} {H':Hp} {v:V} {u:Value},Inv (cxOf CX P w K mg base N qual scope f cdv A outer s H E).dull [] σ' H' s'→RelV v u→Q v H'→CE outer P w H s Q u s' :=
  fun {σ' H' v u} J rv q=>⟨v,H',J.os,J.bare,J.base,J.hok,rv,q⟩
 cases fl with
 | ret u =>
  obtain ⟨v,σ',H',J,rv,q⟩:=hs
  exact fin J rv q
 | next =>
  obtain ⟨σ',H',J,q⟩:=hs
  exact fin (v:=V.non) (u:=Value.none) J rfl q
 | brk =>
  obtain ⟨_,_,_,q⟩:=hs
  exact False.elim q
 | cont =>
  obtain ⟨_,_,_,q⟩:=hs
  exact False.elim q
structure Dh (P:Program) (w:World) (K:W.Frag) (mg:Str→Option Value) (base:Heap) (k:Nat) (x:Str) (ps:List Str) (sp:Sp):Prop where
 ex:∃ f fd,mg x=some (.ref f)∧W.keepIn K (.ref f)=true∧Binds K fd ps []∧FnOkH P w K mg base (CXE P w) k f fd ps sp
section
variable {X : Cx} {k : Nat} {ps : List Str} {sp : Sp} {E : XK} {x : Str} {p pos : Pos} {e : Expr} {es : List Expr} {t : TA}
theorem pe_callH (D:Dh X.prog X.w X.K X.mg X.base k x ps sp) (hr:RoomH k X.A) (hg:Gl X x) (hx:Passes (CXE X.prog X.w) X E) (ha:PA X (e :: es) t) (hdb:(x == ("__debug__":Str))=false:=by decide)
  (he:starEach (e :: es) X.env=(false,eval e X.env) :: starEach es X.env:=by rfl) (hpl:(backTo pos (starEach es X.env)).any (·.1)=false:=by rfl):PE X (.Call (.Name x p) (e :: es) [] pos) (tCallD sp E t):=by
 obtain ⟨f,fd,hm,hk,hb,F⟩:=D.ex
 intro pins s σ H Q I h
 refine wpAny_Call_Name_kw (ld_glob I hg hm ?_ hdb)
 refine W.callWith_K (h₀:=X.base) I.ok.mod.kin hk (thn (ha pos pins s σ H _ I h) fun us s1 ⟨vs,H1,I1,r,q⟩=>⟨I1.kIn,?_⟩) he hpl
 have hl:us.length=ps.length:=by rw [← r.length]; exact F.len _ _ _ _ q
 have hbb:=hb s1 us I1.kIn (by rw [List.append_nil]; exact hl)
 rw [List.append_nil] at hbb
 refine wpAny_call (codeAny_mono (F.run X.A X.stack s1 H1 ⟨us,[]⟩ us vs Q E hr I1.env0 hbb r q) fun r s' hq=>?_)
 cases r with
 | error e=>exact hx pins σ H1 s1 e s' I1 hq
 | ok fl =>
  cases fl with
  | ret u=>exact I1.after hq
  | next=>exact False.elim hq
  | brk=>exact False.elim hq
  | cont=>exact False.elim hq
end
end L2
namespace L2
open PySem PySem.Spec PyProof.Rows
theorem Fun.okH {P:Program} {w:World} {K:W.Frag} {mg:Str→Option Value} {base:Heap} {x qual:Str} {st:Stmt} {f:Addr} {fd:FuncData} {N ps:List Str} {k:Nat} {sp:Sp} (F:Fun K x qual st f fd) (S:FnScope N ps (defScope st)) (len:∀ vs H Q E,sp vs H Q E→vs.length=ps.length)
  (hbody:∀ (cdv:Value) (A:Around) (outer:List Env) (s:Shared) (H:Hp) (vs:List V) (Q:VK) (E:XK),RoomH k (A.deeper (envOfC qual (defScope st) s.heap.objs.size f cdv))→sp vs H Q E →
   ∃ t,PSs (cxOf (CXE P w) P w K mg base N qual (defScope st) f cdv A outer s H E).dull (defBody st) t∧t { nx:=fun _ H'=>Q .non H',rt:=Q } (start N vs) H):FnOkH P w K mg base (CXE P w) (k + 1) f fd ps sp:=by
 obtain ⟨oc,od,kV,doc,pm,an,cdv,ct,osl,rfl,lk,hcd⟩:=F.ex
 exact fn_ofH lk hcd S len fun A outer s H vs Q E hr hsp=>hbody cdv A outer s H vs Q E hr hsp
end L2
namespace L2
open PySem PySem.Spec PyProof.Rows
section
variable {X : Cx} {asg : List Nat} {x : Str} {C : Addr} {b0 : Stmt} {body suite : List Stmt} {tb : XK → List (Addr × Obj) → (Nat → Option V) → (Value → Shared → Prop) → TS} {th : Addr → List (Addr × Obj) → TS} {np pos hpos : Pos}
def tTryAE (K:W.Frag) (C:Addr) (asg:List Nat) (i:Nat) (tb:XK→List (Addr × Obj)→(Nat→Option V)→(Value→Shared→Prop)→TS) (th:Addr→List (Addr × Obj)→TS):TS:=fun D σ H=>∃ E:XK,tTryA K C E asg i (tb E) th D σ H
theorem ps_tryAE {i:Nat} {n:Str} (hm:X.mg x=some (.ref C)) (hg:Gl X x) (hex:X.ex=[]) (hst:X.stack=X.env :: X.outer∧X.env.frame=some X.env.locals) (hk:∀ i,X.kn i=Option.none)
  (hN:X.N.Nodup) (hi:X.N[i]?=some n) (hl:X.env.scope.names.lookup n=some .local)
  (hb:∀ E pn k xe,Passes (CXE X.prog X.w) (X.tr asg pn k xe) E→PassesOwn (model X.prog X.w) X.A X.env xe→PSs (X.tr asg pn k xe) body (tb E pn k xe))
  (hh:∀ y pn,PSs (X.hd y pn fun _ _=>False) (b0 :: suite) (th y pn)) (hd:(x == ("__debug__":Str))=false:=by decide) :
  PS X (.Try body [.ExceptHandler (some (.Name x np)) (some n) (b0 :: suite) hpos] [] [] pos) (tTryAE X.K C asg i tb th):=fun pins s σ H D I ⟨E,h⟩=>ps_tryA hm hg hex hst hk hN hi hl (hb E) hh hd pins s σ H D I h
end
end L2
namespace L2
open PySem PySem.Spec PyProof.Rows
section
variable {X : Cx}
end
end L2
namespace PySem
namespace F
end F
section
variable {prog : Program} {w : World} {A : Around} {s : Shared} {R : Result → Shared → Prop}
variable {I : Addr} {fp wr : List Addr} {G : Array GenState → Array GenState → Prop} {n : Nat} {P : Nat → Value → Prop} {St : Nat → Shared → Prop}
end
section
variable {prog : Program} {w : World} {A : Around} {E : Value → Shared → Prop} {s : Shared}
end
end PySem
namespace L2
open PySem PySem.Spec PyProof.Rows
section
variable {X : Cx}
end
end L2
namespace L2
open PySem PySem.Spec PyProof.Rows
structure CompScopeM (N:List Str) (osc:Scope) (k:Nat) (N':List Str) (fr:List Nat) (scope:Scope) (xc:Str):Prop where
 kind:scope.kind=.function
 names:∀ y∈scope.names,y.2=.local→scope.names.lookup y.1=some .local
 free:∀ y∈scope.names,y.2=.free→osc.names.lookup y.1=some .cell∨osc.names.lookup y.1=some .free
 len:N'.length=k + fr.length
 sl:fr.map (fun i=>N[i]?)=(N'.drop k).map some
 fre:∀ x∈N'.drop k,scope.names.lookup x=some .free
 sep:∀ x∈N'.drop k,(x,NameKind.cell) ∉ scope.names
 xsep:(xc,NameKind.free) ∉ scope.names
section
variable {X : Cx} {N N' : List Str} {osc scope : Scope} {k : Nat} {fr : List Nat} {pins : List (Addr × Obj)} {σ : St} {H2 : Hp} {s2 : Shared} {fp : List Addr} {xc : Str}
end
section
variable {X : Cx} {N N' : List Str} {osc scope : Scope} {k : Nat} {fr : List Nat} {elt tg iter : Expr} {ifs : List Expr} {pos : Pos} {wi : TI} {g : CA → TG} {tt : CA → TT} {te : CA → TE} {xc : Str}
end
end L2
namespace L2
open PySem PySem.Spec PyProof.Rows
end L2
namespace L2
open PySem PySem.Spec PyProof.Rows
section
variable {κ : Type} [DecidableEq κ]
def valV (kvs:List (κ × V)) (k:κ):Option V:=(kvs.find? fun kv=>decide (kv.1=k)).map (·.2)
def putK (kvs:List (κ × V)) (k:κ) (v:V):List (κ × V) :=
 if (kvs.any fun kv=>decide (kv.1=k))=true then kvs.map (fun kv=>if kv.1=k then (kv.1,v) else kv) else kvs ++ [(k,v)]
def dropK (kvs:List (κ × V)) (k:κ):List (κ × V):=kvs.filter fun kv=>decide (kv.1≠k)
theorem valV_pos {p:κ × V} {r:List (κ × V)} {k:κ} (e:p.1=k):valV (p :: r) k=some p.2:=by simp [valV,List.find?_cons,e]
theorem valV_neg {p:κ × V} {r:List (κ × V)} {k:κ} (e:¬ p.1=k):valV (p :: r) k=valV r k:=by simp [valV,List.find?_cons,e]
theorem valV_any (k:κ):∀ kvs:List (κ × V),(kvs.any fun kv=>decide (kv.1=k))=(valV kvs k).isSome
 | []=>rfl
 | p :: r=>by
  rw [List.any_cons]
  by_cases e:p.1=k
  ·simp only [valV_pos e,decide_eq_true e,Bool.true_or,Option.isSome_some]
  ·rw [valV_neg e,decide_eq_false e,Bool.false_or]; exact valV_any k r
theorem length_putK (kvs:List (κ × V)) (k:κ) (v:V):(putK kvs k v).length≤kvs.length + 1:=by
 unfold putK
 split
 ·rw [List.length_map]; omega
 ·rw [List.length_append,List.length_cons,List.length_nil]; omega
theorem putK_new {kvs:List (κ × V)} {k:κ} (v:V) (h:valV kvs k=none):putK kvs k v=kvs ++ [(k,v)]:=by
 unfold putK
 rw [valV_any,h]
 exact if_neg (by decide)
theorem RelO.isSome_eq {o:Option V} {u:Option Value} (r:RelO o u):o.isSome=u.isSome:=by
 cases o with
 | none=>cases u with
  | none=>rfl
  | some _=>exact (show False from r).elim
 | some _=>cases u with
  | none=>exact (show False from r).elim
  | some _=>rfl
theorem RelO.getD {o:Option V} {u:Option Value} {d:V} {d':Value} (r:RelO o u) (rd:RelV d d'):RelV (o.getD d) (u.getD d'):=by
 cases o with
 | none=>cases u with
  | none=>exact rd
  | some _=>exact (show False from r).elim
 | some _=>cases u with
  | none=>exact (show False from r).elim
  | some _=>exact r
theorem KV.val {kvs:List (κ × V)} {vs:List (κ × Value)} (r:KV kvs vs) (k:κ):RelO (valV kvs k) (valueAt vs k):=by
 unfold KV at r
 induction r with
 | nil=>exact True.intro
 | @cons p q ps qs h t ih =>
  obtain ⟨h1,h2⟩:=h
  by_cases e:p.1=k
  ·have e':q.1=k:=h1.symm.trans e
   have b:valueAt (q :: qs) k=some q.2:=by simp [valueAt,List.find?_cons,e']
   rw [valV_pos e,b]; exact h2
  ·have e':¬ q.1=k:=fun z=>e (h1.trans z)
   have b:valueAt (q :: qs) k=valueAt qs k:=by simp [valueAt,List.find?_cons,e']
   rw [valV_neg e,b]; exact ih
theorem KV.any {kvs:List (κ × V)} {vs:List (κ × Value)} (r:KV kvs vs) (k:κ):(kvs.any fun kv=>decide (kv.1=k))=vs.any fun kv=>decide (kv.1=k):=by
 unfold KV at r
 induction r with
 | nil=>rfl
 | cons h t ih=>rw [List.any_cons,List.any_cons,ih,h.1]
theorem KV.repl {kvs:List (κ × V)} {vs:List (κ × Value)} (r:KV kvs vs) (k:κ) {y:V} {u:Value} (ry:RelV y u) :
  KV (kvs.map fun kv=>if kv.1=k then (kv.1,y) else kv) (vs.map fun kv=>if kv.1=k then (kv.1,u) else kv):=by
 unfold KV at r ⊢
 induction r with
 | nil=>exact .nil
 | @cons p q ps qs h t ih =>
  rw [List.map_cons,List.map_cons]
  refine .cons ?_ ih
  obtain ⟨h1,h2⟩:=h
  by_cases e:p.1=k
  ·rw [if_pos e,if_pos (h1.symm.trans e)]; exact ⟨h1,ry⟩
  ·rw [if_neg e,if_neg (fun z=>e (h1.trans z))]; exact ⟨h1,h2⟩
theorem KV.put {kvs:List (κ × V)} {vs:List (κ × Value)} (r:KV kvs vs) (k:κ) {y:V} {u:Value} (ry:RelV y u):KV (putK kvs k y) (stored vs k u):=by
 unfold putK stored
 rw [r.any k]
 by_cases e:(vs.any fun kv=>decide (kv.1=k))=true
 ·rw [if_pos e,if_pos e]; exact r.repl k ry
 ·rw [if_neg e,if_neg e]; exact Paired.snoc r ⟨rfl,ry⟩
theorem KV.drop {kvs:List (κ × V)} {vs:List (κ × Value)} (r:KV kvs vs) (k:κ):KV (dropK kvs k) (without vs k):=by
 unfold KV at r ⊢
 unfold dropK without
 induction r with
 | nil=>exact .nil
 | @cons p q ps qs h t ih =>
  obtain ⟨h1,h2⟩:=h
  rw [List.filter_cons,List.filter_cons]
  by_cases e:p.1=k
  ·have a:¬ decide (p.1≠k)=true:=by simp [e]
   have b:¬ decide (q.1≠k)=true:=by simp [h1.symm.trans e]
   rw [if_neg a,if_neg b]; exact ih
  ·have e':¬ q.1=k:=fun z=>e (h1.trans z)
   have a:decide (p.1≠k)=true:=by simp [e]
   have b:decide (q.1≠k)=true:=by simp [e']
   rw [if_pos a,if_pos b]; exact .cons ⟨h1,h2⟩ ih
theorem KV.keys {kvs:List (κ × V)} {vs:List (κ × Value)} (r:KV kvs vs):kvs.map (·.1)=vs.map (·.1):=by
 unfold KV at r
 induction r with
 | nil=>rfl
 | cons h t ih=>rw [List.map_cons,List.map_cons,ih,h.1]
theorem KV.length {kvs:List (κ × V)} {vs:List (κ × Value)} (r:KV kvs vs):kvs.length=vs.length:=Paired.length r
theorem dropK_le (kvs:List (κ × V)) (k:κ):(dropK kvs k).length≤kvs.length:=List.length_filter_le _ _
end
theorem kV_is {P:Program} {w:World} {k:Key} {u:Value} (r:RelV (kV k) u):(mixKind P w).is k u=true:=by
 cases k with
 | inl i=>obtain ⟨t,e⟩:=(show ∃ t,u=Value.int i t from r); subst e; exact mixKind_int P w i t
 | inr x=>obtain ⟨t,e⟩:=(show ∃ t,u=Value.str x t from r); subst e; exact mixKind_str P w x t
theorem items_are {P:Program} {w:World}:∀ {ks:List Key} {us:List Value},Vals (ks.map kV) us→ItemsAre (mixKind P w) ks us
 | [],_,r=>by rw [List.map_nil] at r; cases r; exact .nil
 | k :: ks,_,r=>by
  rw [List.map_cons] at r
  cases r with
  | cons h t=>exact .cons (kV_is h) (items_are t)
abbrev KT (H:Hp):List (List Key × V)→List (List Key × Addr × Value)→Prop:=Paired fun p q=>p.1=q.1∧H q.2.1=some (.tup (p.1.map kV))∧RelV p.2 q.2.2
theorem KT.val {H:Hp} {kvs:List (List Key × V)} {xs:List (List Key × Addr × Value)} (r:KT H kvs xs) (k:List Key):RelO (valV kvs k) ((atKey xs k).map (·.2)):=by
 induction r with
 | nil=>exact True.intro
 | @cons p q ps qs h t ih =>
  obtain ⟨h1,_,h2⟩:=h
  by_cases e:p.1=k
  ·have e':q.1=k:=h1.symm.trans e
   have b:atKey (q :: qs) k=some q.2:=by simp [atKey,List.find?_cons,e']
   rw [valV_pos e,b]; exact h2
  ·have e':¬ q.1=k:=fun z=>e (h1.trans z)
   have b:atKey (q :: qs) k=atKey qs k:=by simp [atKey,List.find?_cons,e']
   rw [valV_neg e,b]; exact ih
theorem KT.repl {H:Hp} {kvs:List (List Key × V)} {xs:List (List Key × Addr × Value)} (r:KT H kvs xs) (k:List Key) {y:V} {u:Value} (ry:RelV y u) :
  KT H (kvs.map fun kv=>if kv.1=k then (kv.1,y) else kv) (xs.map (putAt k u)):=by
 induction r with
 | nil=>exact .nil
 | @cons p q ps qs h t ih =>
  rw [List.map_cons,List.map_cons]
  refine .cons ?_ ih
  obtain ⟨h1,h2,h3⟩:=h
  unfold putAt
  by_cases e:p.1=k
  ·rw [if_pos e,if_pos (h1.symm.trans e)]; exact ⟨h1,h2,ry⟩
  ·rw [if_neg e,if_neg (fun z=>e (h1.trans z))]; exact ⟨h1,h2,h3⟩
theorem KT.put {H:Hp} {kvs:List (List Key × V)} {xs:List (List Key × Addr × Value)} (r:KT H kvs xs) (k:List Key) {b:Addr} {y:V} {u:Value} (hb:H b=some (.tup (k.map kV))) (ry:RelV y u) :
  KT H (putK kvs k y) (storedH xs k b u):=by
 have e:(kvs.any fun kv=>decide (kv.1=k))=(atKey xs k).isSome:=by
  rw [valV_any,(r.val k).isSome_eq,Option.isSome_map]
 unfold putK storedH
 rw [e]
 by_cases q:(atKey xs k).isSome=true
 ·rw [if_pos q,if_pos q]; exact r.repl k ry
 ·rw [if_neg q,if_neg q]; exact Paired.snoc r ⟨rfl,hb,ry⟩
theorem KT.keeps {H H':Hp} {kvs:List (List Key × V)} {xs:List (List Key × Addr × Value)} (r:KT H kvs xs) (ht:∀ b ys,H b=some (.tup ys)→H' b=some (.tup ys)):KT H' kvs xs :=
 Paired.mapP r fun _ _ z=>⟨z.1,ht _ _ z.2.1,z.2.2⟩
section
variable {P : Program} {w : World} {H : Hp} {h : Heap} {a : Addr}
theorem rd_of {u:HO} (ok:HOk P w H h) (e:Rd H a u):ObjOk P w H h a u:=e.ok ok
theorem dk_rd {kvs:List (Key × V)} (ok:HOk P w H h) (e:Rd H a (.dK kvs)):kvs.length≤sizeLine∧(a == sysModules)=false∧∃ vs,KV kvs vs∧h.DictOf (mixKind P w) a vs :=
 show ObjOk P w H h a (.dK kvs) from rd_of ok e
theorem dk_of {kvs:List (Key × V)} (ok:HOk P w H h) (e:H a=some (.dK kvs)):kvs.length≤sizeLine∧(a == sysModules)=false∧∃ vs,KV kvs vs∧h.DictOf (mixKind P w) a vs:=dk_rd ok (.inl e)
theorem key_of {ks:List Key} (ok:HOk P w H h) (e:H a=some (.tup (ks.map kV))):(tupleKind (mixKind P w)).is h ks a:=by
 obtain ⟨_,its,r,o,h1,h2,n,h3⟩:=(show ObjOk P w H h a (.tup (ks.map kV)) from ok a _ e)
 exact ⟨o,its.toArray,n,h1,h2,h3,by simpa using items_are r⟩
theorem dt_rd {kvs:List (List Key × V)} (ok:HOk P w H h) (e:Rd H a (.dT kvs)):kvs.length≤sizeLine∧(a == sysModules)=false ∧
  ∃ xs,KT H kvs xs∧h.DictOfH (tupleKind (mixKind P w)) a xs:=by
 obtain ⟨z,y,xs,r,o,es,ep,h1,h2,h3,h4,h5⟩:=(show ObjOk P w H h a (.dT kvs) from rd_of ok e)
 refine ⟨z,y,xs,r,o,es,ep,h1,h2,h3,h4,fun x hx=>?_,h5⟩
 have all:∀ {l:List (List Key × V)} {m:List (List Key × Addr × Value)},KT H l m→∀ x∈m,(tupleKind (mixKind P w)).is h x.1 x.2.1:=by
  intro l m q
  induction q with
  | nil=>intro x hx; exact nomatch hx
  | @cons p q ps qs hq t ih =>
   intro x hx
   rcases List.mem_cons.mp hx with e | hx
   ·subst e
    exact key_of ok (by rw [← hq.1]; exact hq.2.1)
   ·exact ih x hx
 exact all r x hx
theorem dt_of {kvs:List (List Key × V)} (ok:HOk P w H h) (e:H a=some (.dT kvs)):kvs.length≤sizeLine∧(a == sysModules)=false ∧
  ∃ xs,KT H kvs xs∧h.DictOfH (tupleKind (mixKind P w)) a xs:=dt_rd ok (.inl e)
end
def DGet (H:Hp) (a:Addr) (y:V) (r:Option V):Prop :=
 (∃ kvs k,Rd H a (.dK kvs)∧y=kV k∧r=valV kvs k)∨∃ kvs k b,Rd H a (.dT kvs)∧y=.ref b∧H b=some (.tup (k.map kV))∧r=valV kvs k
def DPut (H:Hp) (a:Addr) (y v:V) (H':Hp):Prop :=
 (∃ kvs k,H a=some (.dK kvs)∧y=kV k∧kvs.length < sizeLine∧H'=upd H a (.dK (putK kvs k v))) ∨
 ∃ kvs k b,H a=some (.dT kvs)∧y=.ref b∧H b=some (.tup (k.map kV))∧kvs.length < sizeLine∧H'=upd H a (.dT (putK kvs k v))
theorem DGet.k {H:Hp} {a:Addr} {kvs:List (Key × V)} {k:Key} (e:H a=some (.dK kvs)):DGet H a (kV k) (valV kvs k):=.inl ⟨kvs,k,.inl e,rfl,rfl⟩
theorem DGet.t {H:Hp} {a b:Addr} {kvs:List (List Key × V)} {k:List Key} (e:H a=some (.dT kvs)) (eb:H b=some (.tup (k.map kV))):DGet H a (.ref b) (valV kvs k):=.inr ⟨kvs,k,b,.inl e,rfl,eb,rfl⟩
theorem DPut.k {H:Hp} {a:Addr} {kvs:List (Key × V)} {k:Key} {v:V} (e:H a=some (.dK kvs)) (hl:kvs.length < sizeLine):DPut H a (kV k) v (upd H a (.dK (putK kvs k v))):=.inl ⟨kvs,k,e,rfl,hl,rfl⟩
theorem DPut.t {H:Hp} {a b:Addr} {kvs:List (List Key × V)} {k:List Key} {v:V} (e:H a=some (.dT kvs)) (eb:H b=some (.tup (k.map kV))) (hl:kvs.length < sizeLine) :
  DPut H a (.ref b) v (upd H a (.dT (putK kvs k v))):=.inr ⟨kvs,k,b,e,rfl,eb,hl,rfl⟩
section
variable {X : Cx} {pins : List (Addr × Obj)} {σ : St} {H : Hp} {s : Shared} {a : Addr} {y v : V} {u r : Value} {o : Option V} {A : Around} {E : Value → Shared → Prop}
theorem Inv.big (I:Inv X pins σ H s):sysModules < s.heap.objs.size:=by
 have h:mainGlobals < s.heap.objs.size:=(I.mod.glob.keeps I.bk).lt
 exact Nat.lt_trans (by decide) h
theorem d_getItem {Q:Value→Shared→Prop} (hu:A.units + 1 < cLine) (I:Inv X pins σ H s) (g:DGet H a y (some v)) (ry:RelV y u) (h:∀ w' s',Inv X pins σ H s'→RelV v w'→Q w' s') :
  wpAny (model X.prog X.w) A (getItem (.ref a) u) Q E s:=by
 rcases g with ⟨kvs,k,e,ey,l⟩ | ⟨kvs,k,b,e,ey,eb,l⟩
 ·subst ey
  obtain ⟨z,hd,vs,rel,dd⟩:=dk_rd I.hok e
  obtain ⟨w',hw,rw'⟩:=RelO.some_of (v:=v) (o:=valueAt vs k) (by rw [l]; exact rel.val k)
  exact wpAny_getItem_of (kV_is ry) dd.mapOf hw (h w' _ (I.tok _) rw')
 ·subst ey
  cases (show u=Value.ref b from ry)
  obtain ⟨z,hd,xs,rel,dd⟩:=dt_rd I.hok e
  obtain ⟨w',hw,rw'⟩:=RelO.some_of (v:=v) (o:=(atKey xs k).map (·.2)) (by rw [l]; exact rel.val k)
  obtain ⟨p,hp,hp2⟩:=Option.map_eq_some_iff.mp hw
  refine wpAny_getItem_heap (tupleKind_room_in1 hu) (key_of I.hok eb) dd hp ?_
  rw [hp2]
  exact h w' _ (I.tok _) rw'
theorem d_notIn {Q:Value→Shared→Prop} (hu:A.units + 1 < cLine) (I:Inv X pins σ H s) (g:DGet H a y o) (ry:RelV y u) (h:∀ s',Inv X pins σ H s'→Q (.bool (!o.isSome)) s') :
  wpAny (model X.prog X.w) A (compareOp .NotIn u (.ref a)) Q E s:=by
 rcases g with ⟨kvs,k,e,ey,l⟩ | ⟨kvs,k,b,e,ey,eb,l⟩
 ·subst ey
  obtain ⟨z,hd,vs,rel,dd⟩:=dk_rd I.hok e
  refine wpAny_notIn_of (kV_is ry) hd dd.mapOf ?_
  rw [← (rel.val k).isSome_eq,← l]
  exact h _ (I.tok _)
 ·subst ey
  cases (show u=Value.ref b from ry)
  obtain ⟨z,hd,xs,rel,dd⟩:=dt_rd I.hok e
  refine wpAny_notIn_heap (tupleKind_room_in1 hu) (key_of I.hok eb) hd dd ?_
  have q:=(rel.val k).isSome_eq
  rw [Option.isSome_map] at q
  rw [← q,← l]
  exact h _ (I.tok _)
theorem d_write {h':Heap} {t':Nat} {ob:HO} (I:Inv X pins σ H s) (mu:Mut (H a)) (hs:Heap.SameBut a s.heap h') (he:∃ q,h'.get? a=some q) (new:ObjOk X.prog X.w (upd H a ob) h' a ob) :
  Inv X pins σ (upd H a ob) { s with heap:=h',toks:=t' } :=
 I.write (x:=a) (e:=a) mu (.inl rfl) (fun b q hb z=>(hs.2 b hb).trans z) he new
theorem dk_new {P:Program} {w:World} {H':Hp} {h':Heap} {kvs:List (Key × V)} {vs:List (Key × Value)} (z:kvs.length≤sizeLine) (hd:(a == sysModules)=false) (rel:KV kvs vs) (dd:h'.DictOf (mixKind P w) a vs) :
  ObjOk P w H' h' a (.dK kvs):=⟨z,hd,vs,rel,dd⟩
theorem d_setItem {H':Hp} {Q:Unit→Shared→Prop} (hu:A.units + 1 < cLine) (I:Inv X pins σ H s) (g:DPut H a y v H') (ry:RelV y u) (rv:RelV v r) (h:∀ s',Inv X pins σ H' s'→Q () s') :
  wpAny (model X.prog X.w) A (setItem (.ref a) u r) Q E s:=by
 rcases g with ⟨kvs,k,e,ey,l,eH⟩ | ⟨kvs,k,b,e,ey,eb,l,eH⟩
 ·subst ey eH
  obtain ⟨z,hd,vs,rel,dd⟩:=dk_of I.hok e
  have hz:vs.length≤sizeLine:=by rw [← rel.length]; exact z
  have hl:(putK kvs k v).length≤sizeLine:=by have:=length_putK kvs k v; omega
  refine wpAny_setItem_pairs (hsz:=hz) (kV_is ry) dd fun h' dd' hs=>h _ ?_
  have he:∃ q,h'.get? a=some q:=let ⟨q,_,_,hq,_⟩:=dd'; ⟨q,hq⟩
  exact d_write I (by rw [e]; exact True.intro) hs he (dk_new hl hd (rel.put k rv) dd')
 ·subst ey eH
  cases (show u=Value.ref b from ry)
  obtain ⟨z,hd,xs,rel,dd⟩:=dt_of I.hok e
  have hz:xs.length≤sizeLine:=by rw [← Paired.length rel]; exact z
  have hl:(putK kvs k v).length≤sizeLine:=by have:=length_putK kvs k v; omega
  refine wpAny_setItem_heap (hsz:=hz) (tupleKind_room_in1 hu) (key_of I.hok eb) dd fun h' dd' hs=>h _ ?_
  obtain ⟨q,es,ep,hq,h2,h3,h4,_,h5⟩:=dd'
  refine d_write I (by rw [e]; exact True.intro) hs ⟨q,hq⟩ ⟨hl,hd,_,(rel.put k eb rv).keeps fun c ys ec=>?_,q,es,ep,hq,h2,h3,h4,h5⟩
  rw [upd_ne (ne_of ec e (fun z=>nomatch z))]
  exact ec
end
section
variable {X : Cx} {pins : List (Addr × Obj)} {σ : St} {H : Hp} {s : Shared} {a : Addr} {kvs : List (Key × V)} {k : Key} {u : Value} {A : Around} {E : Value → Shared → Prop}
theorem d_pop {v:V} {more:List Value} {Q:Value→Shared→Prop} (I:Inv X pins σ H s) (e:H a=some (.dK kvs)) (ry:RelV (kV k) u) (l:valV kvs k=some v) (hm:more=[]∨∃ x,more=[x])
  (h:∀ w' s',Inv X pins σ (upd H a (.dK (dropK kvs k))) s'→RelV v w'→Q w' s'):wpAny (model X.prog X.w) A (call (.builtin "dict.pop") (.ref a :: u :: more)) Q E s:=by
 obtain ⟨z,hd,vs,rel,dd⟩:=dk_of I.hok e
 obtain ⟨w',hw,rw'⟩:=RelO.some_of (v:=v) (o:=valueAt vs k) (by rw [← l]; exact rel.val k)
 have hp:(keyPart u).isSome=true:=by
  cases k with
  | inl i=>obtain ⟨t,q⟩:=(show ∃ t,u=Value.int i t from ry); subst q; rfl
  | inr x=>obtain ⟨t,q⟩:=(show ∃ t,u=Value.str x t from ry); subst q; rfl
 have ha:argsOk "dict.pop" ⟨.ref a :: u :: more,[]⟩:=by
  rcases hm with q | ⟨x,q⟩
  ·subst q; exact PySem.F.args_dict_pop_2 _ _
  ·subst q; exact PySem.F.args_dict_pop_3 _ _ _
 refine call_meetsIn PySem.F.slot_dict_pop dd.typeIs PySem.F.entry_dict_pop ha (meets_dict_pop_there (mixKind X.prog X.w) a (kV_is ry) more hm hp)
  ⟨vs,w',dd,by rw [← rel.length]; exact z,hw,fun h' dd' hs=>h w' _ ?_ rw'⟩
 have he:∃ q,h'.get? a=some q:=let ⟨q,_,_,hq,_⟩:=dd'; ⟨q,hq⟩
 exact d_write I (by rw [e]; exact True.intro) hs he (dk_new (Nat.le_trans (dropK_le kvs k) z) hd (rel.drop k) dd')
theorem d_len {Q:Value→Shared→Prop} (I:Inv X pins σ H s) (e:Rd H a (.dK kvs)) (h:∀ t s',Inv X pins σ H s'→Q (.int kvs.length t) s'):wpAny (model X.prog X.w) A (call (.builtin "len") [.ref a]) Q E s:=by
 obtain ⟨z,hd,vs,rel,dd⟩:=dk_rd I.hok e
 refine call_len_dict hd dd (by rw [← rel.length]; rw [sizeLine_eq] at z; omega) ?_
 rw [← rel.length]
 exact h _ _ (I.tok _)
end
def NoSl (i:Expr):Prop:=∀ ov iv,subscripted i false ov iv=operate [ov,iv] (getItem ov iv)
theorem subD_of {prog:Program} {w:World} {A:Around} {E:Value→Shared→Prop} {s:Shared} {env:Env} {value slice:Expr} {pos:Pos} {T id:String} {Q:Value→Shared→Prop}
  (hl:typeLookup (.type T) "__getitem__"=pure (some (.builtin id))) (hs:NoSl slice)
  (h:wpAny (model prog w) A (eval value env) (fun o s₁=>wpAny (model prog w) A (eval slice env) (fun i s₂=>s₂.TypeIs o T∧wpAny (model prog w) A (getItem o i) Q E s₂) E s₁) E s) :
  wpAny (model prog w) A (eval (.Subscript value slice pos) env) Q E s:=by
 refine Subscript_ (wpAny_mono h (fun o s₁ h₁=>wpAny_mono h₁ (fun i s₂ h₂=>?_) fun _ _ x=>x) fun _ _ x=>x)
 obtain ⟨hT,h₂⟩:=h₂
 unfold subscriptTail
 refine wpAny_bind ?_
 rw [getitemInPython_of_ne hT.not_modules]
 refine wpAny_bind (wpAny_specialOf hT hl ?_)
 have fin:wpAny (model prog w) A (subscripted slice false o i) (fun r s₃=>wpAny (model prog w) A (letTemporaryGo value o r >>= fun _=>pure r) Q E s₃) E s₂:=by
  rw [hs o i]
  exact wpAny_operating (wpAny_mono h₂ (fun r s₃ h₃=>wpAny_bind (wpAny_letTemporaryGo (wpAny_pure h₃))) fun _ _ x=>x)
 first
  | exact wpAny_pure (wpAny_bind fin)
  | exact wpAny_bind (wpAny_pure (wpAny_bind fin))
  | exact wpAny_bind fin
theorem dict_typeIs {X:Cx} {pins:List (Addr × Obj)} {σ:St} {H:Hp} {s:Shared} {a:Addr} {y:V} {o:Option V} (I:Inv X pins σ H s) (g:DGet H a y o):s.TypeIs (.ref a) "dict":=by
 rcases g with ⟨kvs,k,e,_,_⟩ | ⟨kvs,k,b,e,_,_,_⟩
 ·obtain ⟨_,_,vs,_,dd⟩:=dk_rd I.hok e
  exact dd.typeIs
 ·obtain ⟨_,_,xs,_,dd⟩:=dt_rd I.hok e
  exact dd.typeIs
def tDGet (td ty:TE):TE:=fun σ H Q=>td σ H fun x H1=>ty σ H1 fun y H2=>∃ a v,x=.ref a∧DGet H2 a y (some v)∧Q v H2
def tDNotIn (ty td:TE):TE:=fun σ H Q=>ty σ H fun y H1=>td σ H1 fun x H2=>∃ a o,x=.ref a∧DGet H2 a y o∧Q (.bl (!o.isSome)) H2
def sDPut (td ty tv:TE):TS:=fun D σ H=>tv σ H fun v H1=>td σ H1 fun x H2=>ty σ H2 fun y H3=>∃ a H4,x=.ref a∧DPut H3 a y v H4∧D.nx σ H4
section
variable {X : Cx} {o i e value : Expr} {pos pos' tpos : Pos} {td ty tv : TE}
theorem pe_dget (hu:X.A.units + 1 < cLine) (ho:PE X o td) (hi:PE X i ty) (hs:NoSl i):PE X (.Subscript o i pos) (tDGet td ty):=by
 intro pins s σ H Q I h
 refine subD_of PySem.F.slot_dict_getitem.lookup hs (thn (ho pins s σ H _ I h) fun u s1 ⟨x,H1,I1,rx,q1⟩=>thn (hi pins s1 σ H1 _ I1 q1) fun iv s2 ⟨y,H2,I2,ry,a,v,ex,g,q2⟩=>?_)
 subst ex
 obtain rfl:u=Value.ref a:=rx
 exact ⟨dict_typeIs I2 g,d_getItem hu I2 g ry fun w' s3 I3 rw'=>⟨v,H2,I3,rw',q2⟩⟩
theorem pc_dnotin (hu:X.A.units + 1 < cLine) (hi:PE X i ty) (ho:PE X o td):PC X .NotIn i o (tDNotIn ty td):=by
 intro pins s σ H Q I h
 refine thn (hi pins s σ H _ I h) fun iv s1 ⟨y,H1,I1,ry,q1⟩=>thn (ho pins s1 σ H1 _ I1 q1) fun u s2 ⟨x,H2,I2,rx,a,ov,ex,g,q2⟩=>?_
 subst ex
 obtain rfl:u=Value.ref a:=rx
 exact d_notIn hu I2 g ry fun s3 I3=>⟨.bl (!ov.isSome),H2,I3,rfl,q2⟩
theorem ps_dput (hu:X.A.units + 1 < cLine) (ho:PE X o td) (hi:PE X i ty) (hv:PE X value tv) (hs:swapsWith value (some (.Subscript o i pos')) pos.line X.env=pure false) :
  PS X (.Assign [.Subscript o i pos'] value pos) (sDPut td ty tv):=by
 intro pins s σ H D I h
 refine wpAny_Assign_Subscript (thn (hv pins s σ H _ I h) fun r s1 ⟨v,H1,I1,rv,q1⟩=>thn (ho pins s1 σ H1 _ I1 q1) fun u s2 ⟨x,H2,I2,rx,q2⟩=>thn (hi pins s2 σ H2 _ I2 q2) fun iv s3 ⟨y,H3,I3,ry,a,H4,ex,g,q3⟩=>?_) hs
 subst ex
 obtain rfl:u=Value.ref a:=rx
 exact d_setItem hu I3 g ry rv fun s4 I4=>⟨σ,H4,I4,q3⟩
end
theorem dk_empty {P:Program} {w:World} {H:Hp} (h:Heap) (hb:sysModules < h.objs.size):ObjOk P w H (h.push { cls:=.type "dict",data:=.dict #[] }) h.objs.size (.dK []) :=
 ⟨Nat.zero_le _,beq_eq_false_iff_ne.mpr (Ne.symm (Nat.ne_of_lt hb)),[],.nil,Heap.DictOf.new h⟩
def tDNewK:TE:=fun _ H Q=>∀ p,H p=none→Q (.ref p) (upd H p (.dK []))
section
variable {X : Cx} {pos : Pos}
theorem pe_dnewK:PE X (.Dict [] [] pos) tDNewK:=fun pins s σ H Q I h =>
 wpAny_Dict_empty ⟨.ref s.heap.objs.size,_,I.laid (a:=s.heap.objs.size) (o:=.dK []) (t':=s.toks) (fun _ _ q=>Heap.get?_push_of_some _ q) (Nat.le_refl _) (dk_empty s.heap I.big),rfl,h _ (I.hok.fresh (Nat.le_refl _))⟩
end
def tPairs:List (TE × TE)→St→Hp→(List (V × V)→Hp→Prop)→Prop
 | [],_,H,Q=>Q [] H
 | (tk,tv) :: r,σ,H,Q=>tk σ H fun x H1=>tv σ H1 fun y H2=>tPairs r σ H2 fun ps H3=>Q ((x,y) :: ps) H3
abbrev VV:List (V × V)→List (Value × Value)→Prop:=Paired fun p q=>RelV p.1 q.1∧RelV p.2 q.2
def PPs (X:Cx) (pos:Pos) (keys:List (Option Expr)) (values:List Expr) (trs:List (TE × TE)):Prop :=
 ∀ (pins:List (Addr × Obj)) (s:Shared) (σ:St) (H:Hp) (Q:List (V × V)→Hp→Prop),Inv X pins σ H s→tPairs trs σ H Q →
  wpAny (model X.prog X.w) X.A (evalPairs (pairTrees keys values X.env pos)) (fun vs s'=>∃ ps H',Inv X pins σ H' s'∧VV ps vs∧Q ps H') X.xe s
theorem pps_nil {X:Cx} {pos:Pos}:PPs X pos [] [] []:=fun pins s σ H Q I h=>pairTrees_nil_walk ⟨[],H,I,.nil,h⟩
theorem pps_cons {X:Cx} {pos:Pos} {k v:Expr} {ks:List (Option Expr)} {vs:List Expr} {tk tv:TE} {trs:List (TE × TE)} (hk:PE X k tk) (hv:PE X v tv) (hr:PPs X pos ks vs trs) :
  PPs X pos (some k :: ks) (v :: vs) ((tk,tv) :: trs):=fun pins s σ H Q I h =>
 pairTrees_cons_walk (thn (hk pins s σ H _ I h) fun u s1 ⟨x,H1,I1,rx,q1⟩=>thn (hv pins s1 σ H1 _ I1 q1) fun w2 s2 ⟨y,H2,I2,ry,q2⟩ =>
  thn (hr pins s2 σ H2 _ I2 q2) fun ws s3 ⟨ps,H3,I3,rel,q3⟩=>⟨(x,y) :: ps,H3,I3,.cons ⟨rx,ry⟩ rel,q3⟩)
def mergeK (kvs more:List (Key × V)):List (Key × V):=more.foldl (fun acc kv=>putK acc kv.1 kv.2) kvs
theorem KV.merge:∀ {more:List (Key × V)} {rs:List (Key × Value)} {kvs:List (Key × V)} {vs:List (Key × Value)},KV more rs→KV kvs vs→KV (mergeK kvs more) (merged vs rs):=by
 intro more rs kvs vs r
 unfold KV at r
 induction r generalizing kvs vs with
 | nil=>intro q; exact q
 | @cons p q ps qs h t ih =>
  intro r0
  have e:KV (putK kvs p.1 p.2) (stored vs q.1 q.2):=by
   have:=r0.put p.1 h.2
   rw [← h.1]; exact this
  exact ih e
theorem length_mergeK:∀ (more kvs:List (Key × V)),(mergeK kvs more).length≤kvs.length + more.length
 | [],kvs=>by show kvs.length≤kvs.length + 0; omega
 | p :: r,kvs=>by
  have h1:=length_mergeK r (putK kvs p.1 p.2)
  have h2:=length_putK kvs p.1 p.2
  show (mergeK (putK kvs p.1 p.2) r).length≤_
  rw [List.length_cons]; omega
theorem carries_of {P:Program} {w:World}:∀ {kvs:List (Key × V)} {ws:List (Value × Value)},VV (kvs.map fun kv=>(kV kv.1,kv.2)) ws→∃ rs,Carries (mixKind P w) ws rs∧KV kvs rs
 | [],_,r=>by rw [List.map_nil] at r; cases r; exact ⟨[],True.intro,.nil⟩
 | p :: kvs,_,r=>by
  rw [List.map_cons] at r
  cases r with
  | @cons a b as bs h t =>
   obtain ⟨rs,c,q⟩:=carries_of (P:=P) (w:=w) t
   obtain ⟨b1,b2⟩:=b
   exact ⟨(p.1,b2) :: rs,⟨kV_is h.1,rfl,c⟩,.cons ⟨rfl,h.2⟩ q⟩
def tDisp (trs:List (TE × TE)):TE:=fun σ H Q=>∀ p,H p=none→tPairs trs σ (upd H p (.dK [])) fun ps H2=>H2 p=some (.dK [])∧∃ kvs:List (Key × V),ps=kvs.map (fun kv=>(kV kv.1,kv.2))∧kvs.length≤15∧Q (.ref p) (upd H2 p (.dK (mergeK [] kvs)))
theorem pe_disp {X:Cx} {pos:Pos} {keys:List (Option Expr)} {values:List Expr} {trs:List (TE × TE)} (h:PPs X pos keys values trs) (hall:keys.all (·.isSome)=true) (hl:keys.length=values.length) (h0:keys≠[])
  (h15:keys.length≤15):PE X (.Dict keys values pos) (tDisp trs):=by
 intro pins s σ H Q I q
 have hn:=I.hok.fresh (Nat.le_refl s.heap.objs.size)
 have I1:=I.laid (a:=s.heap.objs.size) (o:=.dK []) (h':=s.heap.push { cls:=.type "dict",data:=.dict #[] }) (t':=s.toks) (fun _ _ q=>Heap.get?_push_of_some _ q) (Nat.le_refl _) (dk_empty s.heap I.big)
 refine wpAny_Dict_walk (knd:=mixKind X.prog X.w) hall hl h0 h15 (thn (h pins _ σ _ _ I1 (q _ hn)) fun ws s2 ⟨ps,H2,I2,rel,e,kvs,ep,lk,q2⟩=>?_)
 subst ep
 obtain ⟨rs,c,rk⟩:=carries_of (P:=X.prog) (w:=X.w) rel
 obtain ⟨z,hd,vs0,r0,dd⟩:=dk_of I2.hok e
 cases r0
 refine ⟨rs,c,dd,fun h' dd' hs=>⟨.ref s.heap.objs.size,_,?_,rfl,q2⟩⟩
 have hz:(mergeK [] kvs).length≤sizeLine:=by
  have h1:=length_mergeK kvs []
  rw [List.length_nil] at h1
  rw [sizeLine_eq]; omega
 have he:∃ q,h'.get? s.heap.objs.size=some q:=let ⟨q,_,_,hq,_⟩:=dd'; ⟨q,hq⟩
 exact d_write I2 (by rw [e]; exact True.intro) hs he (dk_new hz hd (rk.merge .nil) dd')
structure M1 (X:Cx) (o:Expr) (m:Str) (apos:Pos) (e:Expr) (cpos:Pos):Prop where
 base:attributeBase o m X.env (eval o X.env)=eval o X.env
 few:((backTo cpos (starEach [e] X.env)).all (fun x=>!x.1) && (backToKw cpos (keywordEach [] X.env)).all (fun x=>x.1.isSome)
  && decide (([e]:List Expr).length + ([]:List Keyword).length + (if ([]:List Keyword).isEmpty then 0 else 1) < 30))=true
 line:(apos.endLine == cpos.line)=true
 trees:backTo cpos (starEach [e] X.env)=[(false,eval e X.env)]
structure M2 (X:Cx) (o:Expr) (m:Str) (apos:Pos) (e f:Expr) (cpos:Pos):Prop where
 base:attributeBase o m X.env (eval o X.env)=eval o X.env
 few:((backTo cpos (starEach [e,f] X.env)).all (fun x=>!x.1) && (backToKw cpos (keywordEach [] X.env)).all (fun x=>x.1.isSome)
  && decide (([e,f]:List Expr).length + ([]:List Keyword).length + (if ([]:List Keyword).isEmpty then 0 else 1) < 30))=true
 line:(apos.endLine == cpos.line)=true
 trees:backTo cpos (starEach [e,f] X.env)=[(false,eval e X.env),(false,eval f X.env)]
def IsD (H:Hp) (a:Addr):Prop:=(∃ kvs,Rd H a (.dK kvs))∨∃ kvs,Rd H a (.dT kvs)
theorem isD_at {X:Cx} {pins:List (Addr × Obj)} {σ:St} {H:Hp} {s:Shared} {a:Addr} (I:Inv X pins σ H s) (d:IsD H a) :
  s.TypeIs (.ref a) "dict"∧(∀ b,Value.ref a=.ref b→∃ ob,s.heap.get? b=some ob∧ob.dict=none)∧(a == sysModules)=false:=by
 rcases d with ⟨kvs,e⟩ | ⟨kvs,e⟩
 ·obtain ⟨_,hd,vs,_,dd⟩:=dk_rd I.hok e
  refine ⟨dd.typeIs,fun b q=>?_,hd⟩
  cases q
  obtain ⟨ob,_,_,h1,h2,_⟩:=dd
  exact ⟨ob,h1,h2.2.1⟩
 ·obtain ⟨_,hd,xs,_,dd⟩:=dt_rd I.hok e
  refine ⟨dd.typeIs,fun b q=>?_,hd⟩
  cases q
  obtain ⟨ob,_,_,h1,h2,_⟩:=dd
  exact ⟨ob,h1,h2.2.1⟩
section
variable {X : Cx} {pins : List (Addr × Obj)} {σ : St} {H : Hp} {s : Shared} {a : Addr} {y d : V} {u r : Value} {o : Option V} {A : Around} {E : Value → Shared → Prop}
end
def tDPop1 (td ty:TE):TE:=fun σ H Q=>td σ H fun x H1=>∃ a,x=.ref a∧IsD H1 a∧ty σ H1 fun y H2=>∃ kvs k v,H2 a=some (.dK kvs)∧y=kV k∧valV kvs k=some v∧Q v (upd H2 a (.dK (dropK kvs k)))
section
variable {X : Cx} {o e f : Expr} {apos cpos : Pos} {td ty tx : TE}
theorem pe_dpop1 (ho:PE X o td) (he:PE X e ty) (m:M1 X o "pop" apos e cpos):PE X (.Call (.Attribute o "pop" apos) [e] [] cpos) (tDPop1 td ty):=by
 intro pins s σ H Q I h
 refine wpAny_Call_method m.base m.few m.line PySem.F.plainAttrs_dict PySem.F.slot_dict_pop PySem.F.type_dict_pop (thn (ho pins s σ H _ I h) fun u s1 ⟨x,H1,I1,rx,a,ex,d,q1⟩=>?_)
 subst ex
 obtain rfl:u=Value.ref a:=rx
 obtain ⟨t1,t2,_⟩:=isD_at I1 d
 refine ⟨t1,t2,?_⟩
 rw [m.trees]
 refine Calls.callWith_builtin rfl (Calls.evalArgs_plain (Calls.spliced_cons (thn (he pins s1 σ H1 _ I1 q1) fun iv s2 ⟨y,H2,I2,ry,kvs,k,v,ea,ey,l,q2⟩=>Calls.spliced_nil ?_)))
 subst ey
 exact d_pop I2 ea ry l (.inl rfl) fun w' s3 I3 rw'=>⟨v,_,I3,rw',q2⟩
end
section
variable {X : Cx} {pins : List (Addr × Obj)} {σ : St} {H : Hp} {s : Shared} {a : Addr} {kvs : List (Key × V)} {A : Around} {E : Value → Shared → Prop}
end
section
variable {X : Cx} {pins : List (Addr × Obj)} {σ : St} {H : Hp} {s : Shared} {a : Addr} {y : V} {u : Value} {A : Around} {E : Value → Shared → Prop}
end
end L2
namespace L2
open PySem PySem.Spec PyProof.Rows
section
variable {X : Cx}
theorem call_lenD:CallR X (.builtin "len") (fun xs H Q=>∃ a kvs,xs=[V.ref a]∧H a=some (.dK kvs)∧Q (.int kvs.length) H):=by
 intro pins s σ H xs us Q I r h
 obtain ⟨a,kvs,rfl,ha,q⟩:=h
 obtain ⟨u,rfl,ru⟩:=vals1 r
 cases ru
 exact d_len I (.inl ha) fun t s' I'=>⟨.int kvs.length,H,I',⟨t,rfl⟩,q⟩
end
section
variable {κ : Type} [DecidableEq κ]
end
end L2
namespace L2
open PySem PySem.Spec PyProof.Rows
section
variable {X : Cx} {pins : List (Addr × Obj)} {σ : St} {H : Hp} {s : Shared} {d : Addr} {a b : HO}
theorem Inv.swap (I:Inv X pins σ H s) (e:H d=some a) (h1:(∃ kvs,a=.dK kvs)∨∃ o kvs,a=.frz o (.dK kvs)) (hf:∀ o' u',X.H₀ d≠some (.frz o' u')) (ok:ObjOk X.prog X.w (upd H d b) s.heap d b):Inv X pins σ (upd H d b) s:=by
 have notT:∀ xs,H d≠some (.tup xs):=fun xs z=>by
  rw [e] at z
  rcases h1 with ⟨kvs,rfl⟩ | ⟨o,kvs,rfl⟩ <;> cases z
 have notB:∀ ps,H d≠some (.tbl ps):=fun ps z=>by
  rw [e] at z
  rcases h1 with ⟨kvs,rfl⟩ | ⟨o,kvs,rfl⟩ <;> cases z
 have notO:∀ x,H d≠some (.own x):=fun x z=>by
  rw [e] at z
  rcases h1 with ⟨kvs,rfl⟩ | ⟨o,kvs,rfl⟩ <;> cases z
 have notN:H d≠none:=fun z=>by rw [e] at z; cases z
 have hok:HOk X.prog X.w (upd H d b) s.heap:=fun c oc ec=>by
  by_cases hc:c=d
  ·subst hc
   rw [upd_same] at ec
   cases ec
   exact ok
  ·rw [upd_ne hc] at ec
   refine (I.hok c oc ec).stay (fun _ _ _ q=>q) (fun x q=>?_) (fun x xs q=>?_)
   ·rw [upd_ne (fun z=>notO c (by rw [← z]; exact q))]; exact q
   ·rw [upd_ne (fun z=>notT xs (by rw [← z]; exact q))]; exact q
 have nn:∀ {c:Addr},H c=none→upd H d b c=none:=fun {c} q=>by rw [upd_ne (fun z=>notN (by rw [← z]; exact q))]; exact q
 have B:=I.base
 exact ⟨I.ok,I.os,I.bare,⟨B.keep,B.slot,fun c o q n hx=>nn (B.free c o q n hx),B.there,fun c xs q=>by rw [upd_ne (fun z=>notT xs (by rw [← z]; exact B.tups c xs q))]; exact B.tups c xs q,
  fun c o u q=>by rw [upd_ne (fun z=>hf o u (by rw [← z]; exact q))]; exact B.frzs c o u q,fun c ps q=>by
   obtain ⟨m,q2⟩:=B.tbls c ps q
   exact ⟨m,by rw [upd_ne (fun z=>notB _ (by rw [← z]; exact q2))]; exact q2⟩⟩,I.loc,I.cell,nn I.free,fun x c q=>nn (I.freeC x c q),fun p hp=>let ⟨p1,p2,p3⟩:=I.pin p hp; ⟨p1,nn p2,p3⟩,hok,I.len,I.kno⟩
theorem Inv.notFrz {kvs:List (Key × V)} (I:Inv X pins σ H s) (e:H d=some (.dK kvs)):∀ o' u',X.H₀ d≠some (.frz o' u'):=fun o' u' z=>by
 have:=I.base.frzs d o' u' z
 rw [e] at this; cases this
theorem Inv.thaw {o:Obj} {kvs:List (Key × V)} (I:Inv X pins σ H s) (e:H d=some (.frz o (.dK kvs))) (hf:∀ o' u',X.H₀ d≠some (.frz o' u')):Inv X pins σ (upd H d (.dK kvs)) s:=by
 refine I.swap e (.inr ⟨o,kvs,rfl⟩) hf ?_
 obtain ⟨_,q⟩:=I.hok d _ e
 exact q
end
def Itd (d:Addr) (o:Obj) (kvs:List (Key × V)):It:=⟨fun i H=>H d=some (.frz o (.dK kvs))∧i < kvs.length,fun i H x H'=>H'=H∧∃ k v,kvs[i]?=some (k,v)∧x=kV k,fun i H=>H d=some (.frz o (.dK kvs))∧kvs.length≤i⟩
theorem pair_at {α β:Type} {F:α→β→Prop}:∀ {xs:List α} {ys:List β},Paired F xs ys→∀ (i:Nat) {x:α} {y:β},xs[i]?=some x→ys[i]?=some y→F x y
 | _,_,.nil,_,_,_,h,_=>by cases h
 | _,_,.cons e _,0,_,_,h1,h2=>by cases h1; cases h2; exact e
 | _,_,.cons _ r,i + 1,_,_,h1,h2=>pair_at r i h1 h2
theorem key_rel {P:Program} {w:World} {k:Key} {v:Value} (h:(mixKind P w).is k v=true):RelV (kV k) v:=by
 rcases keyIs_shape (show keyIs k v=true from h) with ⟨i,t,rfl,rfl⟩ | ⟨x,t,rfl,rfl⟩
 ·exact ⟨t,rfl⟩
 ·exact ⟨t,rfl⟩
theorem turn_dict {P:Program} {w:World} {K:W.Frag} {tg:Expr} (d it:Addr) (o:Obj) {kvs:List (Key × V)} {vs:List (Key × Value)} {ep:Nat} (hk:KV kvs vs) (hd:∀ h:Heap,h.get? d=some o→h.DictAt (mixKind P w) d vs ep) :
  Turn P w K tg (Itd d o kvs) [it] it (fun i h=>h.IsKeyIter it d i vs.length ep) where
 mem:=by simp
 obj:=fun i h st b hb=>by
  have e:b=it:=by simpa using hb
  subst e
  obtain ⟨o,e,c,d⟩:=st
  exact ⟨o,e,fun v z=>by rw [d] at z; cases z⟩
 keep:=fun i h h' st k=>st.at fun o e=>k it (by simp) o e
 item:=by
  intro X hP hw hK hc i pins s σ H E I hf st hg
  subst hP hw hK
  obtain ⟨hq,hi⟩:=hg
  obtain ⟨eo,_⟩:=I.hok d _ hq
  have hl:kvs.length=vs.length:=Paired.length hk
  have ev:vs[i]?=some (vs[i]'(by omega)):=List.getElem?_eq_getElem (by omega)
  obtain ⟨f0,f1,f2,f3,f4,f5⟩:=hf it (by simp)
  have ek:kvs[i]?=some kvs[i]:=List.getElem?_eq_getElem hi
  have same:kvs[i].1=(vs[i]'(by omega)).1:=(pair_at hk i ek ev).1
  refine wpAny_pyNext_dict_item (k:=(vs[i]'(by omega)).1) (v:=(vs[i]'(by omega)).2) st (hd _ eo) ev fun key h' hkey st' sb=>?_
  have I1:Inv X pins σ H { s with heap:=h' }:=I.turned (t':=s.toks) (fun b o hb e=>(sb.2 b hb).trans e) f0 f1 f3 f4 f5
  obtain ⟨o2,e2,c2,d2⟩:=id st'
  refine ⟨key,rfl,go_of (s:={ s with heap:=h' }) e2 c2 d2 (by decide) ⟨kV kvs[i].1,H,I1,?_,⟨rfl,kvs[i].1,kvs[i].2,ek,rfl⟩,st',fun b hb=>(hf b hb).1⟩⟩
  rw [same]
  exact key_rel hkey
 done:=by
  intro X hP hw hK hc i pins s σ H E I hf st hg
  subst hP hw hK
  obtain ⟨hq,hi⟩:=hg
  obtain ⟨eo,_⟩:=I.hok d _ hq
  have hl:kvs.length=vs.length:=Paired.length hk
  obtain ⟨f0,f1,f2,f3,f4,f5⟩:=hf it (by simp)
  exact wpAny_pyNext_dict_end (I.ok.hd hc) st (hd _ eo) (List.getElem?_eq_none (by omega)) fun h' eb=>⟨rfl,I.turned (t':=s.toks) (fun b o hb e=>eb b o hb e) f0 f1 f3 f4 f5⟩
 self:=fun _ _ _ _ _ st h=>wpAny_pyIter_keyiter st h
section
variable {X : Cx} {tg : Expr}
def iDict (td:TE):TI:=fun σ H R=>td σ H fun x H1=>∃ d kvs,x=.ref d∧H1 d=some (.dK kvs)∧∀ o,R (Itd d o kvs) (upd H1 d (.frz o (.dK kvs)))
theorem pi_dict {l:Expr} {tl:TE} (hl:PE X l tl):PI X tg l (iDict tl):=by
 intro pins s σ H R I h
 refine thn (hl pins s σ H _ I h) fun v s1 ⟨x,H1,I1,r1,q1⟩=>?_
 obtain ⟨d,kvs,e,hq,q⟩:=q1
 subst e
 cases r1
 obtain ⟨hz,hsys,vs,kv,o,es,ep,ho,hx,hdat,hks,hps,hn⟩:=dk_of I1.hok hq
 have hd:∀ h:Heap,h.get? d=some o→h.DictAt (mixKind X.prog X.w) d vs ep:=fun h e=>⟨o,es,e,hx,hdat,hks,hps,hn⟩
 refine wpAny_pyIter_dict (knd:=mixKind X.prog X.w) hsys (hd _ ho) ?_
 have I2:Inv X pins σ (upd H1 d (.frz o (.dK kvs))) s1:=I1.swap hq (.inl ⟨kvs,rfl⟩) (I1.notFrz hq) ⟨ho,hz,hsys,vs,kv,o,es,ep,ho,hx,hdat,hks,hps,hn⟩
 refine ⟨s1.heap.objs.size,[s1.heap.objs.size],_,_,_,rfl,I2.kept (t':=s1.toks) fun b o e=>Heap.get?_push_of_some _ e,turn_dict d _ o kv hd,⟨_,Heap.get?_push_size _ rfl,rfl,rfl⟩,fun b hb=>?_,q o⟩
 have e:b=s1.heap.objs.size:=by simpa using hb
 subst e
 exact I2.fpOk (Nat.le_refl _) (I2.hok.fresh (Nat.le_refl _))
def tThaw (H0:Hp) (t:TS):TS:=fun D σ H=>t { D with nx:=fun σ' H'=>∃ d o kvs,H' d=some (.frz o (.dK kvs))∧(∀ o' u',H0 d≠some (.frz o' u'))∧D.nx σ' (upd H' d (.dK kvs)) } σ H
theorem ps_thaw {st:Stmt} {t:TS} (h:PS X st t):PS X st (tThaw X.H₀ t):=by
 intro pins s σ H D I q
 refine thn (h pins s σ H _ I q) fun f s' r=>?_
 cases f with
 | next =>
  obtain ⟨σ',H',I',d,o,kvs,e,n,q'⟩:=r
  exact ⟨σ',_,I'.thaw e n,q'⟩
 | brk=>exact r
 | cont=>exact r
 | ret u=>exact r
end
theorem for_dict {d:Addr} {o:Obj} {kvs:List (Key × V)} {g:TG} {tb:TS} {D:Ends} {σ:St} {H:Hp} (Pv:Nat→St→Hp→Prop) (h0:Pv 0 σ H) (hl:∀ i σ H,i≤kvs.length→Pv i σ H→H d=some (.frz o (.dK kvs)))
  (hs:∀ i k v σ H,kvs[i]?=some (k,v)→Pv i σ H→g (kV k) σ H fun σ2 H2=>tb { D with nx:=Pv (i + 1),ct:=Pv (i + 1),bk:=D.nx } σ2 H2) (hd:∀ σ H,Pv kvs.length σ H→D.nx σ H) :
  ∃ W:Nat→Nat→St→Hp→Prop,(∃ m,W 0 m σ H)∧∀ i m σ H,W i m σ H →
   ((Itd d o kvs).stop i H∧D.nx σ H)∨((Itd d o kvs).go i H∧∃ N:St→Hp→Prop,(∀ σ' H',N σ' H'→∃ m',m' < m∧W (i + 1) m' σ' H')∧∀ x H',(Itd d o kvs).yld i H x H'→g x σ H' fun σ2 H2=>tb { D with nx:=N,ct:=N,bk:=D.nx } σ2 H2):=by
 refine ⟨fun i m σ H=>m=kvs.length - i∧i≤kvs.length∧Pv i σ H,⟨kvs.length,by simp,Nat.zero_le _,h0⟩,?_⟩
 rintro i m σ H ⟨rfl,hi,p⟩
 have q:=hl i σ H hi p
 by_cases hlt:i < kvs.length
 ·refine .inr ⟨⟨q,hlt⟩,Pv (i + 1),fun σ' H' p'=>⟨kvs.length - (i + 1),by omega,rfl,hlt,p'⟩,fun x H' y=>?_⟩
  obtain ⟨e,k,v,ek,rfl⟩:=y
  subst e
  exact hs i k v σ _ ek p
 ·have e:i=kvs.length:=by omega
  subst e
  exact .inl ⟨⟨q,Nat.le_refl _⟩,hd σ H p⟩
end L2
namespace Ws
inductive Wd where
 | non | int (i:Int) | pair (a b:Int)
 deriving DecidableEq
inductive Kd where
 | fewest | widest | counted | likeliest | chances | musts | rests (m:Nat)
 deriving DecidableEq
def isShare:Wd→Bool
 | .pair a b=>decide (0 < b) && decide (Int.gcd a b=1)
 | _=>false
def isFrom:Wd→Int→Bool
 | .int i,l=>decide (l≤i)
 | _,_=>false
def isWorth:Kd→Wd→Bool
 | .fewest,w=>decide (w=.non) || isFrom w 0
 | .widest,.int i=>decide (0≤i) && decide (i≤1000000000)
 | .counted,w=>isFrom w (-1)
 | .likeliest,.pair a b=>isShare (.pair a b) && (decide (0≤a) && decide (a≤b))
 | .chances,.pair a b=>isShare (.pair a b) && decide (0≤a)
 | .musts,w=>decide (w=.non) || isFrom w 0
 | .rests m,.int i=>decide (0≤i) && decide (i < 2 ^ m)
 | _,_=>false
def KdOk:Kd→Prop
 | .rests m=>1≤m∧m≤12
 | _=>True
def shareW (t b:Int):Wd:=.pair (t / (Int.gcd t b:Int)) (b / (Int.gcd t b:Int))
def noneW (which:Int):Wd:=if which=0∨which=5 then .non else if which=3∨which=4 then .pair 0 1 else .int 0
def restW (which:Int):Wd:=if which=0∨which=5 then .int 0 else if which=1 then .int 1000000000 else if which=3∨which=4 then .pair 1 1 else .int 1
theorem gcd_step (x y:Int):Int.gcd y (x % y)=Int.gcd x y:=by
 rw [Int.gcd_comm x y]
 refine Int.gcd_right_eq_iff.mpr fun c hc=>?_
 have e:x=x % y + y * (x / y):=(Int.emod_add_mul_ediv x y).symm
 have h2:c ∣ y * (x / y):=Int.dvd_trans hc (Int.dvd_mul_right _ _)
 constructor
 ·intro h; rw [e]; exact Int.dvd_add h h2
 ·intro h
  have:x % y=x - y * (x / y):=by omega
  rw [this]; exact Int.dvd_sub h h2
theorem gcd_pos {a b:Int} (h:0 < b):0 < (Int.gcd a b:Int):=by
 have:0 < Int.gcd a b:=Int.gcd_pos_iff.mpr (.inr (by omega))
 exact Int.natCast_pos.mpr this
end Ws
namespace Ws
structure KSR (S:Type) where
 zero:S
 one:S
 add:S→S→S
 mul:S→S→S
 star:S→Option S
 add_assoc:∀ a b c,add (add a b) c=add a (add b c)
 add_comm:∀ a b,add a b=add b a
 zero_add:∀ a,add zero a=a
 mul_assoc:∀ a b c,mul (mul a b) c=mul a (mul b c)
 mul_comm:∀ a b,mul a b=mul b a
 one_mul:∀ a,mul one a=a
 zero_mul:∀ a,mul zero a=zero
 mul_add:∀ a b c,mul a (add b c)=add (mul a b) (mul a c)
 anti:∀ a b c d,add a c=b→add b d=a→a=b
 star_eq:∀ a s,star a=some s→s=add one (mul a s)
 star_ind:∀ a s b x c,star a=some s→add (add b (mul a x)) c=x→∃ d,add (mul s b) d=x
def oMin:Option Nat→Option Nat→Option Nat
 | none,b=>b
 | a,none=>a
 | some i,some j=>some (min i j)
def oAdd:Option Nat→Option Nat→Option Nat
 | some i,some j=>some (i + j)
 | _,_=>none
def oMul:Option Nat→Option Nat→Option Nat
 | some i,some j=>some (i * j)
 | some 0,none=>some 0
 | none,some 0=>some 0
 | _,_=>none
def oAnd:Option Nat→Option Nat→Option Nat
 | none,b=>b
 | a,none=>a
 | some i,some j=>some (i &&& j)
def oOr:Option Nat→Option Nat→Option Nat
 | some i,some j=>some (i ||| j)
 | _,_=>none
theorem anti_idem {S:Type} {add:S→S→S} (as:∀ a b c,add (add a b) c=add a (add b c)) (cm:∀ a b,add a b=add b a) (id:∀ a,add a a=a) (a b c d:S) (h1:add a c=b) (h2:add b d=a):a=b:=by
 have e1:add b a=b:=by rw [← h1,as,cm c a,← as,id]
 have e2:add a b=a:=by rw [← h2,as,cm d b,← as,id]
 rw [← e2,cm,e1]
theorem star1_ind {S:Type} {add mul:S→S→S} {one:S} (as:∀ a b c,add (add a b) c=add a (add b c)) (om:∀ a,mul one a=a) (a b x c:S) (h:add (add b (mul a x)) c=x):∃ d,add (mul one b) d=x :=
 ⟨add (mul a x) c,by rw [om,← as]; exact h⟩
def ksFewest:KSR (Option Nat) where
 zero:=none
 one:=some 0
 add:=oMin
 mul:=oAdd
 star:=fun _=>some (some 0)
 add_assoc:=fun a b c=>by cases a <;> cases b <;> cases c <;> simp [oMin,Nat.min_assoc]
 add_comm:=fun a b=>by cases a <;> cases b <;> simp [oMin,Nat.min_comm]
 zero_add:=fun a=>by cases a <;> rfl
 mul_assoc:=fun a b c=>by cases a <;> cases b <;> cases c <;> simp [oAdd,Nat.add_assoc]
 mul_comm:=fun a b=>by cases a <;> cases b <;> simp [oAdd,Nat.add_comm]
 one_mul:=fun a=>by cases a <;> simp [oAdd]
 zero_mul:=fun a=>by cases a <;> rfl
 mul_add:=fun a b c=>by cases a <;> cases b <;> cases c <;> simp [oAdd,oMin,Nat.add_min_add_left]
 anti:=anti_idem (fun a b c=>by cases a <;> cases b <;> cases c <;> simp [oMin,Nat.min_assoc]) (fun a b=>by cases a <;> cases b <;> simp [oMin,Nat.min_comm]) (fun a=>by cases a <;> simp [oMin])
 star_eq:=fun a s h=>by cases h; cases a <;> simp [oAdd,oMin]
 star_ind:=fun a s b x c h=>by
  cases h
  exact star1_ind (fun a b c=>by cases a <;> cases b <;> cases c <;> simp [oMin,Nat.min_assoc]) (fun a=>by cases a <;> simp [oAdd]) a b x c
theorem and_or_distrib (i j k:Nat):i ||| (j &&& k)=(i ||| j) &&& (i ||| k):=by
 apply Nat.eq_of_testBit_eq; intro n; simp only [Nat.testBit_or,Nat.testBit_and]; cases i.testBit n <;> simp
def ksMusts:KSR (Option Nat) where
 zero:=none
 one:=some 0
 add:=oAnd
 mul:=oOr
 star:=fun _=>some (some 0)
 add_assoc:=fun a b c=>by cases a <;> cases b <;> cases c <;> simp [oAnd,Nat.and_assoc]
 add_comm:=fun a b=>by cases a <;> cases b <;> simp [oAnd,Nat.and_comm]
 zero_add:=fun a=>by cases a <;> rfl
 mul_assoc:=fun a b c=>by cases a <;> cases b <;> cases c <;> simp [oOr,Nat.or_assoc]
 mul_comm:=fun a b=>by cases a <;> cases b <;> simp [oOr,Nat.or_comm]
 one_mul:=fun a=>by cases a <;> simp [oOr]
 zero_mul:=fun a=>by cases a <;> rfl
 mul_add:=fun a b c=>by cases a <;> cases b <;> cases c <;> simp [oOr,oAnd,and_or_distrib]
 anti:=anti_idem (fun a b c=>by cases a <;> cases b <;> cases c <;> simp [oAnd,Nat.and_assoc]) (fun a b=>by cases a <;> cases b <;> simp [oAnd,Nat.and_comm]) (fun a=>by cases a <;> simp [oAnd])
 star_eq:=fun a s h=>by cases h; cases a <;> simp [oOr,oAnd]
 star_ind:=fun a s b x c h=>by
  cases h
  exact star1_ind (fun a b c=>by cases a <;> cases b <;> cases c <;> simp [oAnd,Nat.and_assoc]) (fun a=>by cases a <;> simp [oOr]) a b x c
def oStar:Option Nat→Option Nat
 | some 0=>some 1
 | _=>none
theorem oMul_some (i j:Nat):oMul (some i) (some j)=some (i * j):=by cases i <;> cases j <;> simp [oMul]
theorem oMul_comm (a b:Option Nat):oMul a b=oMul b a:=by
 cases a with
 | none=>cases b with
  | none=>rfl
  | some j=>cases j <;> rfl
 | some i=>cases b with
  | none=>cases i <;> rfl
  | some j=>rw [oMul_some,oMul_some,Nat.mul_comm]
theorem oMul_zero (a:Option Nat):oMul (some 0) a=some 0:=by cases a <;> simp [oMul]
theorem oMul_assoc (a b c:Option Nat):oMul (oMul a b) c=oMul a (oMul b c):=by
 rcases a with _ | _ | i <;> rcases b with _ | _ | j <;> rcases c with _ | _ | k <;> simp [oMul,Nat.mul_assoc,Nat.add_mul,Nat.mul_add,Nat.add_assoc]
theorem oMul_add (a b c:Option Nat):oMul a (oAdd b c)=oAdd (oMul a b) (oMul a c):=by
 rcases a with _ | _ | i <;> rcases b with _ | _ | j <;> rcases c with _ | _ | k <;> simp [oMul,oAdd,Nat.mul_add,Nat.add_mul] <;> first | rfl | omega | skip
theorem oAdd_assoc (a b c:Option Nat):oAdd (oAdd a b) c=oAdd a (oAdd b c):=by cases a <;> cases b <;> cases c <;> simp [oAdd,Nat.add_assoc]
theorem oAdd_comm (a b:Option Nat):oAdd a b=oAdd b a:=by cases a <;> cases b <;> simp [oAdd,Nat.add_comm]
def ksCounted:KSR (Option Nat) where
 zero:=some 0
 one:=some 1
 add:=oAdd
 mul:=oMul
 star:=fun a=>some (oStar a)
 add_assoc:=oAdd_assoc
 add_comm:=oAdd_comm
 zero_add:=fun a=>by cases a <;> simp [oAdd]
 mul_assoc:=oMul_assoc
 mul_comm:=oMul_comm
 one_mul:=fun a=>by
  cases a with
  | none=>rfl
  | some i=>rw [oMul_some,Nat.one_mul]
 zero_mul:=oMul_zero
 mul_add:=oMul_add
 anti:=fun a b c d h1 h2=>by
  cases a <;> cases b <;> cases c <;> cases d <;> simp [oAdd] at h1 h2 ⊢
  omega
 star_eq:=fun a s h=>by
  cases h
  rcases a with _ | _ | i <;> simp [oStar,oMul,oAdd]
 star_ind:=fun a s b x c h e=>by
  cases h
  rcases a with _ | _ | i
  ·rcases b with _ | _ | j
   ·have:x=none:=by rw [← e]; simp [oAdd]
    exact ⟨none,by rw [this]; rfl⟩
   ·exact ⟨x,by cases x <;> simp [oStar,oMul,oAdd]⟩
   ·refine ⟨none,?_⟩
    rcases x with _ | _ | n
    ·rfl
    ·rcases c with _ | k <;> simp [oMul,oAdd] at e
    ·rcases c with _ | k <;> simp [oMul,oAdd] at e
  ·refine ⟨c,?_⟩
   rw [← e,show oStar (some 0)=some 1 from rfl]
   rw [oMul_zero]
   cases b <;> simp [oMul,oAdd]
  ·rcases b with _ | _ | j
   ·have:x=none:=by rw [← e]; simp [oAdd]
    exact ⟨none,by rw [this]; rfl⟩
   ·exact ⟨x,by cases x <;> simp [oStar,oMul,oAdd]⟩
   ·refine ⟨none,?_⟩
    rcases x with _ | n
    ·rfl
    ·rcases c with _ | k
     ·rw [oMul_some] at e; simp [oAdd] at e
     ·rw [oMul_some] at e
      simp only [oAdd,Option.some.injEq] at e
      have:n≤(i + 1) * n:=Nat.le_mul_of_pos_left n (by omega)
      omega
abbrev Wid:={n:Nat // n≤1000000000}
def ksWidest:KSR Wid where
 zero:=⟨0,by omega⟩
 one:=⟨1000000000,by omega⟩
 add:=fun a b=>⟨max a.1 b.1,by have:=a.2; have:=b.2; omega⟩
 mul:=fun a b=>⟨min a.1 b.1,by have:=a.2; have:=b.2; omega⟩
 star:=fun _=>some ⟨1000000000,by omega⟩
 add_assoc:=fun a b c=>Subtype.ext (by simp [Nat.max_assoc])
 add_comm:=fun a b=>Subtype.ext (by simp [Nat.max_comm])
 zero_add:=fun a=>Subtype.ext (by simp)
 mul_assoc:=fun a b c=>Subtype.ext (by simp [Nat.min_assoc])
 mul_comm:=fun a b=>Subtype.ext (by simp [Nat.min_comm])
 one_mul:=fun a=>Subtype.ext (by have:=a.2; show min 1000000000 a.1=a.1; omega)
 zero_mul:=fun a=>Subtype.ext (by simp)
 mul_add:=fun a b c=>Subtype.ext (by show min a.1 (max b.1 c.1)=max (min a.1 b.1) (min a.1 c.1); omega)
 anti:=fun a b c d h1 h2=>Subtype.ext (by have:=congrArg Subtype.val h1; have:=congrArg Subtype.val h2; simp at *; omega)
 star_eq:=fun a s h=>by cases h; exact Subtype.ext (by have:=a.2; show 1000000000=max 1000000000 (min a.1 1000000000); omega)
 star_ind:=fun a s b x c h e=>by
  cases h
  exact star1_ind (add:=fun a b:Wid=>⟨max a.1 b.1,by have:=a.2; have:=b.2; omega⟩) (mul:=fun a b:Wid=>⟨min a.1 b.1,by have:=a.2; have:=b.2; omega⟩) (one:=⟨1000000000,by omega⟩) (fun a b c=>Subtype.ext (by simp [Nat.max_assoc])) (fun a=>Subtype.ext (by have:=a.2; show min 1000000000 a.1=a.1; omega)) a b x c e
end Ws
namespace Ws
abbrev Lik:={q:Rat // 0≤q∧q≤1}
abbrev Cha:={q:Rat // 0≤q}
theorem rmul_nonneg {a b:Rat} (ha:0≤a) (hb:0≤b):0≤a * b:=Rat.mul_nonneg ha hb
theorem rmul_le_one {a b:Rat} (ha:0≤a) (ha1:a≤1) (hb:0≤b) (hb1:b≤1):a * b≤1:=by
 have:=Rat.mul_le_mul_of_nonneg_left hb1 ha
 grind
def rmax (a b:Rat):Rat:=if a < b then b else a
theorem rmul_max {a b c:Rat} (ha:0≤a):a * rmax b c=rmax (a * b) (a * c):=by
 unfold rmax
 by_cases h:b < c
 ·rw [if_pos h]
  by_cases z:a * b < a * c
  ·rw [if_pos z]
  ·rw [if_neg z]
   have:=Rat.mul_le_mul_of_nonneg_left (Rat.le_of_lt h) ha
   grind
 ·rw [if_neg h]
  by_cases z:a * b < a * c
  ·have:=Rat.mul_le_mul_of_nonneg_left (show c≤b by grind) ha
   grind
  ·rw [if_neg z]
theorem rmax_assoc (a b c:Rat):rmax (rmax a b) c=rmax a (rmax b c):=by unfold rmax; grind
theorem rmax_comm (a b:Rat):rmax a b=rmax b a:=by unfold rmax; grind
def ksLikeliest:KSR Lik where
 zero:=⟨0,by grind⟩
 one:=⟨1,by grind⟩
 add:=fun a b=>⟨rmax a.1 b.1,by have:=a.2; have:=b.2; unfold rmax; grind⟩
 mul:=fun a b=>⟨a.1 * b.1,rmul_nonneg a.2.1 b.2.1,rmul_le_one a.2.1 a.2.2 b.2.1 b.2.2⟩
 star:=fun _=>some ⟨1,by grind⟩
 add_assoc:=fun a b c=>Subtype.ext (rmax_assoc _ _ _)
 add_comm:=fun a b=>Subtype.ext (rmax_comm _ _)
 zero_add:=fun a=>Subtype.ext (by have:=a.2; show rmax 0 a.1=a.1; unfold rmax; grind)
 mul_assoc:=fun a b c=>Subtype.ext (by show a.1 * b.1 * c.1=a.1 * (b.1 * c.1); grind)
 mul_comm:=fun a b=>Subtype.ext (by show a.1 * b.1=b.1 * a.1; grind)
 one_mul:=fun a=>Subtype.ext (by show 1 * a.1=a.1; grind)
 zero_mul:=fun a=>Subtype.ext (by show 0 * a.1=0; grind)
 mul_add:=fun a b c=>Subtype.ext (rmul_max a.2.1)
 anti:=fun a b c d h1 h2=>Subtype.ext (by have h1:rmax a.1 c.1=b.1:=congrArg Subtype.val h1; have h2:rmax b.1 d.1=a.1:=congrArg Subtype.val h2; unfold rmax at *; grind)
 star_eq:=fun a s h=>by cases h; exact Subtype.ext (by have:=a.2; show 1=rmax 1 (a.1 * 1); unfold rmax; grind)
 star_ind:=fun a s b x c h e=>by
  cases h
  refine ⟨⟨rmax (a.1 * x.1) c.1,by have:=a.2; have:=c.2; have:=rmul_nonneg a.2.1 x.2.1; have:=rmul_le_one a.2.1 a.2.2 x.2.1 x.2.2; unfold rmax; grind⟩,Subtype.ext ?_⟩
  have e:rmax (rmax b.1 (a.1 * x.1)) c.1=x.1:=congrArg Subtype.val e
  show rmax (1 * b.1) (rmax (a.1 * x.1) c.1)=x.1
  rw [← rmax_assoc,show 1 * b.1=b.1 by grind]
  exact e
theorem rinv_nonneg {a:Rat} (h:a < 1):0≤(1 - a)⁻¹:=Rat.le_of_lt (Rat.inv_pos.mpr (by grind))
def ksChances:KSR Cha where
 zero:=⟨0,by grind⟩
 one:=⟨1,by grind⟩
 add:=fun a b=>⟨a.1 + b.1,by have:=a.2; have:=b.2; grind⟩
 mul:=fun a b=>⟨a.1 * b.1,rmul_nonneg a.2 b.2⟩
 star:=fun a=>if h:a.1 < 1 then some ⟨(1 - a.1)⁻¹,rinv_nonneg h⟩ else none
 add_assoc:=fun a b c=>Subtype.ext (by show a.1 + b.1 + c.1=a.1 + (b.1 + c.1); grind)
 add_comm:=fun a b=>Subtype.ext (by show a.1 + b.1=b.1 + a.1; grind)
 zero_add:=fun a=>Subtype.ext (by show 0 + a.1=a.1; grind)
 mul_assoc:=fun a b c=>Subtype.ext (by show a.1 * b.1 * c.1=a.1 * (b.1 * c.1); grind)
 mul_comm:=fun a b=>Subtype.ext (by show a.1 * b.1=b.1 * a.1; grind)
 one_mul:=fun a=>Subtype.ext (by show 1 * a.1=a.1; grind)
 zero_mul:=fun a=>Subtype.ext (by show 0 * a.1=0; grind)
 mul_add:=fun a b c=>Subtype.ext (by show a.1 * (b.1 + c.1)=a.1 * b.1 + a.1 * c.1; grind)
 anti:=fun a b c d h1 h2=>Subtype.ext (by have h1:a.1 + c.1=b.1:=congrArg Subtype.val h1; have h2:b.1 + d.1=a.1:=congrArg Subtype.val h2; have:=c.2; have:=d.2; grind)
 star_eq:=fun a s h=>by
  split at h
  ·cases h
   exact Subtype.ext (by show (1 - a.1)⁻¹=1 + a.1 * (1 - a.1)⁻¹; grind)
  ·cases h
 star_ind:=fun a s b x c h e=>by
  split at h
  ·rename_i lt
   cases h
   refine ⟨⟨(1 - a.1)⁻¹ * c.1,rmul_nonneg (rinv_nonneg lt) c.2⟩,Subtype.ext ?_⟩
   have e:b.1 + a.1 * x.1 + c.1=x.1:=congrArg Subtype.val e
   show (1 - a.1)⁻¹ * b.1 + (1 - a.1)⁻¹ * c.1=x.1
   grind
  ·cases h
theorem chances_lt (x:Cha) (h:x.1 < 1):ksChances.star x=some ⟨(1 - x.1)⁻¹,rinv_nonneg h⟩:=dif_pos h
theorem chances_ge (x:Cha) (h:¬ x.1 < 1):ksChances.star x=none:=dif_neg h
end Ws
namespace Ws
def raisedN (m b i:Nat):Nat:=((b <<< i) &&& (2 ^ m - 1)) ||| ((b <<< i) >>> m)
def behN (m a b:Nat):Nat:=(List.range m).foldl (fun s i=>if a.testBit i then s ||| raisedN m b i else s) 0
def behTo (m a b n:Nat):Nat:=(List.range n).foldl (fun s i=>if a.testBit i then s ||| raisedN m b i else s) 0
theorem behTo_succ (m a b n:Nat):behTo m a b (n + 1)=if a.testBit n then behTo m a b n ||| raisedN m b n else behTo m a b n:=by
 unfold behTo; rw [List.range_succ,List.foldl_append]; rfl
theorem raised_bit {m b i k:Nat} (hb:b < 2 ^ m) (hi:i < m):(raisedN m b i).testBit k=true ↔ k < m∧∃ j,j < m∧b.testBit j=true∧(i + j) % m=k:=by
 have hz:∀ j,m≤j→b.testBit j=false:=fun j h=>Nat.testBit_lt_two_pow (Nat.lt_of_lt_of_le hb (Nat.pow_le_pow_right (by omega) h))
 unfold raisedN
 rw [Nat.testBit_or,Nat.testBit_and,Nat.testBit_shiftRight,Nat.testBit_two_pow_sub_one,Nat.testBit_shiftLeft,Nat.testBit_shiftLeft]
 simp only [Bool.or_eq_true,Bool.and_eq_true,decide_eq_true_eq]
 constructor
 ·rintro (⟨⟨h1,h2⟩,h3⟩ | ⟨h1,h2⟩)
  ·refine ⟨h3,k - i,by omega,h2,?_⟩
   rw [show i + (k - i)=k by omega,Nat.mod_eq_of_lt h3]
  ·have h4:¬ m≤m + k - i:=fun z=>by rw [hz _ z] at h2; cases h2
   refine ⟨by omega,m + k - i,by omega,h2,?_⟩
   rw [show i + (m + k - i)=k + m by omega,Nat.add_mod_right,Nat.mod_eq_of_lt (by omega)]
 ·rintro ⟨h1,j,h2,h3,h4⟩
  by_cases c:i + j < m
  ·rw [Nat.mod_eq_of_lt c] at h4
   refine .inl ⟨⟨by omega,?_⟩,h1⟩
   rw [show k - i=j by omega]; exact h3
  ·rw [show i + j=(i + j - m) + m by omega,Nat.add_mod_right,Nat.mod_eq_of_lt (by omega)] at h4
   refine .inr ⟨by omega,?_⟩
   rw [show m + k - i=j by omega]; exact h3
theorem behTo_bit {m a b k:Nat} (hb:b < 2 ^ m):∀ n,n≤m→((behTo m a b n).testBit k=true ↔ k < m∧∃ i j,i < n∧j < m∧a.testBit i=true∧b.testBit j=true∧(i + j) % m=k)
 | 0,_=>by simp [behTo]
 | n + 1,h=>by
  have ih:=behTo_bit (a:=a) (k:=k) hb n (by omega)
  rw [behTo_succ]
  by_cases c:a.testBit n=true
  ·rw [if_pos c,Nat.testBit_or,Bool.or_eq_true,ih,raised_bit hb (by omega)]
   constructor
   ·rintro (⟨h1,i,j,h2,h3,h4⟩ | ⟨h1,j,h2,h3,h4⟩)
    ·exact ⟨h1,i,j,by omega,h3,h4⟩
    ·exact ⟨h1,n,j,by omega,h2,c,h3,h4⟩
   ·rintro ⟨h1,i,j,h2,h3,h4,h5,h6⟩
    by_cases e:i=n
    ·subst e; exact .inr ⟨h1,j,h3,h5,h6⟩
    ·exact .inl ⟨h1,i,j,by omega,h3,h4,h5,h6⟩
  ·rw [if_neg c,ih]
   constructor
   ·rintro ⟨h1,i,j,h2,h3,h4⟩; exact ⟨h1,i,j,by omega,h3,h4⟩
   ·rintro ⟨h1,i,j,h2,h3,h4,h5,h6⟩
    refine ⟨h1,i,j,?_,h3,h4,h5,h6⟩
    have:i≠n:=fun e=>by subst e; exact c h4
    omega
theorem behN_bit {m a b k:Nat} (hb:b < 2 ^ m):(behN m a b).testBit k=true ↔ k < m∧∃ i j,i < m∧j < m∧a.testBit i=true∧b.testBit j=true∧(i + j) % m=k:=behTo_bit hb m (Nat.le_refl m)
theorem lt_of_bits {m x:Nat} (h:∀ k,x.testBit k=true→k < m):x < 2 ^ m:=by
 apply Nat.lt_pow_two_of_testBit
 intro i hi
 cases e:x.testBit i with
 | false=>rfl
 | true=>have:=h i e; omega
theorem behN_lt {m a b:Nat} (hb:b < 2 ^ m):behN m a b < 2 ^ m:=lt_of_bits fun k h=>((behN_bit hb).mp h).1
theorem bit_lt {m x k:Nat} (h:x < 2 ^ m) (b:x.testBit k=true):k < m:=by
 by_cases c:k < m
 ·exact c
 ·rw [Nat.testBit_lt_two_pow (Nat.lt_of_lt_of_le h (Nat.pow_le_pow_right (by omega) (by omega)))] at b; cases b
theorem eq_of_bits {x y:Nat} (h:∀ k,x.testBit k=true ↔ y.testBit k=true):x=y:=Nat.eq_of_testBit_eq fun k=>Bool.eq_iff_iff.mpr (h k)
theorem behN_comm {m a b:Nat} (ha:a < 2 ^ m) (hb:b < 2 ^ m):behN m a b=behN m b a:=eq_of_bits fun k=>by
 rw [behN_bit hb,behN_bit ha]
 constructor <;> rintro ⟨h,i,j,h1,h2,h3,h4,h5⟩ <;> exact ⟨h,j,i,h2,h1,h4,h3,by rw [Nat.add_comm]; exact h5⟩
theorem behN_assoc {m a b c:Nat} (hb:b < 2 ^ m) (hc:c < 2 ^ m):behN m (behN m a b) c=behN m a (behN m b c):=eq_of_bits fun k=>by
 rw [behN_bit hc,behN_bit (behN_lt hc)]
 constructor
 ·rintro ⟨h,i,j,h1,h2,h3,h4,h5⟩
  obtain ⟨_,p,q,g1,g2,g3,g4,g5⟩:=(behN_bit hb).mp h3
  refine ⟨h,p,(q + j) % m,g1,Nat.mod_lt _ (by omega),g3,(behN_bit hc).mpr ⟨Nat.mod_lt _ (by omega),q,j,g2,h2,g4,h4,rfl⟩,?_⟩
  rw [← h5,← g5,Nat.add_mod_mod,Nat.mod_add_mod,Nat.add_assoc]
 ·rintro ⟨h,i,j,h1,h2,h3,h4,h5⟩
  obtain ⟨_,p,q,g1,g2,g3,g4,g5⟩:=(behN_bit hc).mp h4
  refine ⟨h,(i + p) % m,q,Nat.mod_lt _ (by omega),g2,(behN_bit hb).mpr ⟨Nat.mod_lt _ (by omega),i,p,h1,g1,h3,g3,rfl⟩,g4,?_⟩
  rw [← h5,← g5,Nat.add_mod_mod,Nat.mod_add_mod,Nat.add_assoc]
theorem behN_or {m a b c:Nat} (hb:b < 2 ^ m) (hc:c < 2 ^ m):behN m a (b ||| c)=behN m a b ||| behN m a c:=eq_of_bits fun k=>by
 rw [behN_bit (Nat.or_lt_two_pow hb hc),Nat.testBit_or,Bool.or_eq_true,behN_bit hb,behN_bit hc]
 simp only [Nat.testBit_or,Bool.or_eq_true]
 constructor
 ·rintro ⟨h,i,j,h1,h2,h3,h4 | h4,h5⟩
  ·exact .inl ⟨h,i,j,h1,h2,h3,h4,h5⟩
  ·exact .inr ⟨h,i,j,h1,h2,h3,h4,h5⟩
 ·rintro (⟨h,i,j,h1,h2,h3,h4,h5⟩ | ⟨h,i,j,h1,h2,h3,h4,h5⟩)
  ·exact ⟨h,i,j,h1,h2,h3,.inl h4,h5⟩
  ·exact ⟨h,i,j,h1,h2,h3,.inr h4,h5⟩
theorem one_bit {k:Nat}:(1:Nat).testBit k=true ↔ k=0:=by
 rw [show (1:Nat)=2 ^ 0 from rfl,Nat.testBit_two_pow]
 simp; omega
theorem one_lt {m:Nat} (hm:1≤m):1 < 2 ^ m:=Nat.one_lt_two_pow (by omega)
theorem behN_one {m a:Nat} (hm:1≤m) (ha:a < 2 ^ m):behN m 1 a=a:=eq_of_bits fun k=>by
 rw [behN_bit ha]
 constructor
 ·rintro ⟨h,i,j,h1,h2,h3,h4,h5⟩
  rw [one_bit] at h3; subst h3
  rw [Nat.zero_add,Nat.mod_eq_of_lt h2] at h5; subst h5; exact h4
 ·intro h
  have:=bit_lt ha h
  exact ⟨this,0,k,by omega,this,one_bit.mpr rfl,h,by rw [Nat.zero_add,Nat.mod_eq_of_lt this]⟩
theorem behN_zero {m a:Nat} (ha:a < 2 ^ m):behN m 0 a=0:=eq_of_bits fun k=>by
 rw [behN_bit ha]; simp
def rndTo (m a:Nat):Nat→Nat
 | 0=>1
 | k + 1=>rndTo m a k ||| behN m (rndTo m a k) a
theorem rndTo_lt {m a:Nat} (hm:1≤m) (ha:a < 2 ^ m):∀ k,rndTo m a k < 2 ^ m
 | 0=>one_lt hm
 | k + 1=>Nat.or_lt_two_pow (rndTo_lt hm ha k) (behN_lt ha)
theorem rndTo_stays {m a k : Nat} (h : rndTo m a (k + 1) = rndTo m a k) : ∀ j, k ≤ j → rndTo m a j = rndTo m a k := fun j hj => by
  induction j with
  | zero => obtain rfl : k = 0 := by omega
            rfl
  | succ j ih =>
    by_cases c : k ≤ j
    · have e := ih c
      show rndTo m a j ||| behN m (rndTo m a j) a = _
      rw [e]; exact h
    · obtain rfl : k = j + 1 := by omega
      rfl
def cnt (x:Nat):Nat→Nat
 | 0=>0
 | n + 1=>cnt x n + (if x.testBit n then 1 else 0)
theorem cnt_le (x:Nat):∀ n,cnt x n≤n
 | 0=>Nat.le_refl _
 | n + 1=>by have:=cnt_le x n; unfold cnt; split <;> omega
theorem cnt_mono {x y:Nat} (h:∀ k,x.testBit k=true→y.testBit k=true):∀ n,cnt x n≤cnt y n
 | 0=>Nat.le_refl _
 | n + 1=>by
  have ih:=cnt_mono h n
  unfold cnt
  split
  ·rename_i c; rw [if_pos (h n c)]; omega
  ·split <;> omega
theorem cnt_lt {x y:Nat} (h:∀ k,x.testBit k=true→y.testBit k=true) (k:Nat) (h1:x.testBit k=false) (h2:y.testBit k=true):∀ n,k < n→cnt x n < cnt y n
 | 0,z=>by omega
 | n + 1,z=>by
  unfold cnt
  by_cases e:k=n
  ·subst e
   have:=cnt_mono h k
   rw [h1,h2]; simp; omega
  ·have:=cnt_lt h k h1 h2 n (by omega)
   split
   ·rename_i c; rw [if_pos (h n c)]; omega
   ·split <;> omega
theorem rndTo_grows {m a:Nat} (hm:1≤m) (ha:a < 2 ^ m):∀ k,(∀ j,j < k→rndTo m a (j + 1)≠rndTo m a j)→k + 1≤cnt (rndTo m a k) m
 | 0,_=>by
  obtain ⟨n,rfl⟩:∃ n,m=n + 1:=⟨m - 1,by omega⟩
  have:∀ n,1≤cnt 1 (n + 1):=fun n=>by
   induction n with
   | zero=>simp [cnt]
   | succ n ih=>rw [cnt]; omega
  exact this n
 | k + 1,h=>by
  have ih:=rndTo_grows hm ha k fun j hj=>h j (by omega)
  have ne:=h k (by omega)
  have sub:∀ i,(rndTo m a k).testBit i=true→(rndTo m a (k + 1)).testBit i=true:=fun i z=>by
   show (rndTo m a k ||| behN m (rndTo m a k) a).testBit i=true
   rw [Nat.testBit_or,z]; rfl
  obtain ⟨i,hi⟩:∃ i,(rndTo m a k).testBit i=false∧(rndTo m a (k + 1)).testBit i=true:=by
   refine Classical.byContradiction fun n=>ne (eq_of_bits fun i=>⟨fun z=>?_,sub i⟩)
   refine Classical.byContradiction fun y=>n ⟨i,by cases e:(rndTo m a k).testBit i <;> simp_all,z⟩
  have:=cnt_lt sub i hi.1 hi.2 m (bit_lt (rndTo_lt hm ha (k + 1)) hi.2)
  omega
theorem rndTo_fix {m a:Nat} (hm:1≤m) (ha:a < 2 ^ m):∀ j,m≤j→rndTo m a j=rndTo m a m:=by
 have:∃ k,k < m∧rndTo m a (k + 1)=rndTo m a k:=by
  refine Classical.byContradiction fun n=>?_
  have:=rndTo_grows hm ha m fun j hj e=>n ⟨j,hj,e⟩
  have:=cnt_le (rndTo m a m) m
  omega
 obtain ⟨k,hk,e⟩:=this
 intro j hj
 rw [rndTo_stays e j (by omega),rndTo_stays e m (by omega)]
theorem rndTo_done {m a k:Nat} (hm:1≤m) (ha:a < 2 ^ m) (h:rndTo m a (k + 1)=rndTo m a k):rndTo m a k=rndTo m a m:=by
 by_cases c:k≤m
 ·exact (rndTo_stays h m c).symm
 ·exact rndTo_fix hm ha k (by omega)
abbrev Res (m:Nat):={n:Nat // n < 2 ^ m}
theorem or_self (a:Nat):a ||| a=a:=Nat.or_self a
def ksRests (m:Nat) (hm:1≤m):KSR (Res m) where
 zero:=⟨0,Nat.two_pow_pos m⟩
 one:=⟨1,one_lt hm⟩
 add:=fun a b=>⟨a.1 ||| b.1,Nat.or_lt_two_pow a.2 b.2⟩
 mul:=fun a b=>⟨behN m a.1 b.1,behN_lt b.2⟩
 star:=fun a=>some ⟨rndTo m a.1 m,rndTo_lt hm a.2 m⟩
 add_assoc:=fun a b c=>Subtype.ext (Nat.or_assoc _ _ _)
 add_comm:=fun a b=>Subtype.ext (Nat.or_comm _ _)
 zero_add:=fun a=>Subtype.ext (Nat.zero_or _)
 mul_assoc:=fun a b c=>Subtype.ext (behN_assoc b.2 c.2)
 mul_comm:=fun a b=>Subtype.ext (behN_comm a.2 b.2)
 one_mul:=fun a=>Subtype.ext (behN_one hm a.2)
 zero_mul:=fun a=>Subtype.ext (behN_zero a.2)
 mul_add:=fun a b c=>Subtype.ext (behN_or b.2 c.2)
 anti:=fun a b c d h1 h2=>Subtype.ext (anti_idem (add:=fun a b:Nat=>a ||| b) Nat.or_assoc Nat.or_comm Nat.or_self a.1 b.1 c.1 d.1 (congrArg Subtype.val h1) (congrArg Subtype.val h2))
 star_eq:=fun a s h=>by
  cases h
  refine Subtype.ext ?_
  show rndTo m a.1 m=1 ||| behN m a.1 (rndTo m a.1 m)
  have key:∀ k,rndTo m a.1 (k + 1)=1 ||| behN m a.1 (rndTo m a.1 k):=fun k=>by
   induction k with
   | zero=>show 1 ||| behN m 1 a.1=1 ||| behN m a.1 1; rw [behN_comm a.2 (one_lt hm)]
   | succ k ih =>
    have l:=rndTo_lt hm a.2 k
    have e:rndTo m a.1 (k + 2)=rndTo m a.1 (k + 1) ||| behN m (rndTo m a.1 (k + 1)) a.1:=rfl
    have e1:rndTo m a.1 (k + 1)=rndTo m a.1 k ||| behN m (rndTo m a.1 k) a.1:=rfl
    have l1:=rndTo_lt hm a.2 (k + 1)
    rw [e,behN_comm l1 a.2]
    refine eq_of_bits fun i=>?_
    have s1:(rndTo m a.1 (k + 1)).testBit i=true→(1 ||| behN m a.1 (rndTo m a.1 (k + 1))).testBit i=true:=fun z=>by
     rw [ih,Nat.testBit_or,Bool.or_eq_true] at z
     rw [Nat.testBit_or,Bool.or_eq_true]
     rcases z with z | z
     ·exact .inl z
     ·refine .inr ?_
      rw [e1,behN_or l (behN_lt a.2),Nat.testBit_or,z]; rfl
    have s2:(1:Nat).testBit i=true→(rndTo m a.1 (k + 1)).testBit i=true:=fun z=>by rw [ih,Nat.testBit_or,z]; rfl
    simp only [Nat.testBit_or,Bool.or_eq_true] at s1 ⊢
    constructor
    ·rintro (z | z)
     ·exact s1 z
     ·exact .inr z
    ·rintro (z | z)
     ·exact .inl (s2 z)
     ·exact .inr z
  rw [← key m]
  exact (rndTo_fix hm a.2 (m + 1) (by omega)).symm
 star_ind:=fun a s b x c h e=>by
  cases h
  refine ⟨x,Subtype.ext ?_⟩
  have e:b.1 ||| behN m a.1 x.1 ||| c.1=x.1:=congrArg Subtype.val e
  show behN m (rndTo m a.1 m) b.1 ||| x.1=x.1
  have hb:∀ i,b.1.testBit i=true→x.1.testBit i=true:=fun i z=>by rw [← e,Nat.testBit_or,Nat.testBit_or,z]; rfl
  have hax:∀ i,(behN m a.1 x.1).testBit i=true→x.1.testBit i=true:=fun i z=>by rw [← e,Nat.testBit_or,Nat.testBit_or,z]; simp
  have mono:∀ {p q r:Nat},q < 2 ^ m→r < 2 ^ m→(∀ i,q.testBit i=true→r.testBit i=true)→∀ i,(behN m p q).testBit i=true→(behN m p r).testBit i=true:=fun hq hr z i y=>by
   rw [behN_bit hq] at y
   obtain ⟨h,i,j,h1,h2,h3,h4,h5⟩:=y
   exact (behN_bit hr).mpr ⟨h,i,j,h1,h2,h3,z j h4,h5⟩
  have key:∀ k i,(behN m (rndTo m a.1 k) b.1).testBit i=true→x.1.testBit i=true:=fun k=>by
   induction k with
   | zero=>intro i z; rw [show rndTo m a.1 0=1 from rfl,behN_one hm b.2] at z; exact hb i z
   | succ k ih =>
    intro i z
    have l:=rndTo_lt hm a.2 k
    rw [show rndTo m a.1 (k + 1)=rndTo m a.1 k ||| behN m (rndTo m a.1 k) a.1 from rfl,behN_comm (Nat.or_lt_two_pow l (behN_lt a.2)) b.2,behN_or l (behN_lt a.2),Nat.testBit_or,Bool.or_eq_true] at z
    rcases z with z | z
    ·rw [behN_comm b.2 l] at z; exact ih i z
    ·rw [behN_comm l a.2,behN_comm b.2 (behN_lt l),behN_assoc l b.2] at z
     exact hax i (mono (behN_lt b.2) x.2 (fun i y=>ih i y) i z)
  refine eq_of_bits fun i=>?_
  rw [Nat.testBit_or,Bool.or_eq_true]
  exact ⟨fun z=>z.elim (key m i) id,.inr⟩
end Ws
namespace Ws
def ofR (q:Rat):Wd:=.pair q.num (q.den:Int)
theorem den_pos (q:Rat):(0:Int) < q.den:=by have:=q.den_nz; omega
theorem shareW_ofR {t b:Int} (h:0 < b):shareW t b=ofR (Rat.divInt t b):=by
 unfold shareW ofR
 rw [Rat.num_divInt,Rat.den_divInt,if_neg (by omega),Int.sign_eq_one_of_pos h,Int.one_mul,Int.gcd_comm b t]
 congr 1
 rw [Int.natCast_ediv,Int.natAbs_of_nonneg (by omega)]
theorem ofR_inj {p q:Rat} (h:ofR p=ofR q):p=q:=by
 unfold ofR at h
 simp only [Wd.pair.injEq] at h
 exact Rat.ext h.1 (by omega)
theorem ofR_gcd (q:Rat):Int.gcd q.num (q.den:Int)=1:=q.reduced
theorem ofR_share (q:Rat):isShare (ofR q)=true:=by
 show (decide ((0:Int) < q.den) && decide (Int.gcd q.num (q.den:Int)=1))=true
 rw [ofR_gcd,decide_eq_true (den_pos q)]; rfl
theorem share_is {a b:Int} (h:isShare (.pair a b)=true):∃ q:Rat,q.num=a∧(q.den:Int)=b:=by
 simp only [isShare,Bool.and_eq_true,decide_eq_true_eq] at h
 refine ⟨⟨a,b.toNat,by omega,?_⟩,rfl,by show ((b.toNat:Nat):Int)=b; omega⟩
 have:b.toNat=b.natAbs:=by omega
 rw [this]; exact h.2
theorem add_shareW (p q:Rat):shareW (p.num * q.den + q.num * p.den) (p.den * q.den)=ofR (p + q):=by
 rw [shareW_ofR (Int.mul_pos (den_pos p) (den_pos q)),← Rat.divInt_add_divInt _ _ (Int.ne_of_gt (den_pos p)) (Int.ne_of_gt (den_pos q)),Rat.num_divInt_den,Rat.num_divInt_den]
theorem mul_cross (p q:Rat):Wd.pair (p.num / (Int.gcd p.num q.den:Int) * (q.num / (Int.gcd q.num p.den:Int))) ((q.den:Int) / (Int.gcd p.num q.den:Int) * ((p.den:Int) / (Int.gcd q.num p.den:Int)))=ofR (p * q):=by
 unfold ofR
 have e1:(p * q).num=p.num / (Int.gcd p.num q.den:Int) * (q.num / (Int.gcd q.num p.den:Int)):=by
  show (Rat.mul p q).num=_
  rw [Rat.mul]
  show p.num.divExact _ _ * q.num.divExact _ _=_
  rw [Int.divExact_eq_ediv,Int.divExact_eq_ediv]; rfl
 have e2:((p * q).den:Int)=(q.den:Int) / (Int.gcd p.num q.den:Int) * ((p.den:Int) / (Int.gcd q.num p.den:Int)):=by
  show ((Rat.mul p q).den:Int)=_
  rw [Rat.mul]
  show ((p.den.divExact _ _ * q.den.divExact _ _:Nat):Int)=_
  rw [Nat.divExact_eq_div,Nat.divExact_eq_div,Int.natCast_mul,Int.mul_comm]
  simp [Int.gcd]
 rw [e1,e2]
theorem lack_divInt (p:Rat):Rat.divInt (p.den - p.num) p.den=1 - p:=by
 have z:(p.den:Rat)≠0:=by intro z; have:=p.den_nz; exact this (by exact_mod_cast z)
 have e:p=(p.num:Rat) / ((p.den:Int):Rat):=by
  conv=>lhs; rw [← Rat.num_divInt_den p]
  rw [Rat.divInt_eq_div]
 have e1:p * (p.den:Rat)=(p.num:Rat):=by
  rw [Rat.intCast_natCast] at e
  rw [Rat.div_def] at e
  have:=congrArg (fun x=>x * (p.den:Rat)) e
  refine this.trans ?_
  show (p.num:Rat) * (p.den:Rat)⁻¹ * (p.den:Rat)=p.num
  rw [Rat.mul_assoc,Rat.inv_mul_cancel _ z,Rat.mul_one]
 rw [Rat.divInt_eq_div,Rat.intCast_sub,Rat.intCast_natCast,← e1,Rat.div_def]
 generalize (p.den:Rat)=d at z
 grind
theorem lack_shareW (p:Rat):shareW (p.den - p.num) p.den=ofR (1 - p):=by
 rw [shareW_ofR (den_pos p),lack_divInt]
theorem lt_one {q:Rat}:q.num < q.den ↔ q < 1:=by
 rw [Rat.lt_iff]
 simp
theorem inv_turn {q:Rat} (h:0 < q.num):ofR q⁻¹=.pair q.den q.num:=by
 unfold ofR
 rw [Rat.num_inv,Rat.den_inv,if_neg (by omega),Int.sign_eq_one_of_pos h,Int.one_mul]
 congr 1
 omega
theorem num_pos {q:Rat}:0 < q.num ↔ 0 < q:=by
 rw [Rat.lt_iff]
 simp
theorem lt_cross (p q:Rat):p.num * q.den < q.num * p.den ↔ p < q:=(Rat.lt_iff p q).symm
def Car:Kd→Type
 | .fewest=>Option Nat
 | .widest=>Wid
 | .counted=>Option Nat
 | .likeliest=>Lik
 | .chances=>Cha
 | .musts=>Option Nat
 | .rests m=>Res m
def enc:(kd:Kd)→Car kd→Wd
 | .fewest,none=>.non
 | .fewest,some n=>.int (n:Int)
 | .widest,n=>.int (n.1:Int)
 | .counted,none=>.int (-1)
 | .counted,some n=>.int (n:Int)
 | .likeliest,q=>ofR q.1
 | .chances,q=>ofR q.1
 | .musts,none=>.non
 | .musts,some n=>.int (n:Int)
 | .rests _,n=>.int (n.1:Int)
def ks:(kd:Kd)→KdOk kd→KSR (Car kd)
 | .fewest,_=>ksFewest
 | .widest,_=>ksWidest
 | .counted,_=>ksCounted
 | .likeliest,_=>ksLikeliest
 | .chances,_=>ksChances
 | .musts,_=>ksMusts
 | .rests m,h=>ksRests m h.1
theorem enc_inj:∀ {kd:Kd} {x y:Car kd},enc kd x=enc kd y→x=y
 | .fewest,none,none,_=>rfl
 | .fewest,some _,some _,h=>by
  simp only [enc,Wd.int.injEq] at h; exact congrArg some (by omega)
 | .fewest,none,some _,h=>by cases h
 | .fewest,some _,none,h=>by cases h
 | .widest,x,y,h=>by
  simp only [enc,Wd.int.injEq] at h; exact Subtype.ext (by omega)
 | .counted,none,none,_=>rfl
 | .counted,some _,some _,h=>by
  simp only [enc,Wd.int.injEq] at h; exact congrArg some (by omega)
 | .counted,none,some _,h=>by simp only [enc,Wd.int.injEq] at h; omega
 | .counted,some _,none,h=>by simp only [enc,Wd.int.injEq] at h; omega
 | .likeliest,x,y,h=>Subtype.ext (ofR_inj h)
 | .chances,x,y,h=>Subtype.ext (ofR_inj h)
 | .musts,none,none,_=>rfl
 | .musts,some _,some _,h=>by
  simp only [enc,Wd.int.injEq] at h; exact congrArg some (by omega)
 | .musts,none,some _,h=>by cases h
 | .musts,some _,none,h=>by cases h
 | .rests _,x,y,h=>by
  simp only [enc,Wd.int.injEq] at h; exact Subtype.ext (by omega)
theorem pow_cast (m:Nat):((2 ^ m:Nat):Int)=2 ^ m:=by
 induction m with
 | zero=>rfl
 | succ m ih=>rw [Nat.pow_succ,Int.pow_succ,← ih]; simp
section
variable {S : Type} (R : KSR S)
theorem KSR.add_zero (a:S):R.add a R.zero=a:=by rw [R.add_comm]; exact R.zero_add a
theorem KSR.mul_one (a:S):R.mul a R.one=a:=by rw [R.mul_comm]; exact R.one_mul a
theorem KSR.add_mul (a b c:S):R.mul (R.add a b) c=R.add (R.mul a c) (R.mul b c):=by rw [R.mul_comm,R.mul_add,R.mul_comm c a,R.mul_comm c b]
def KSR.le (a b:S):Prop:=∃ c,R.add a c=b
end
end Ws
namespace Ws
open PySem
open Builtin.Int (intBits)
def Sm (B:Nat):Wd→Prop
 | .non=>True
 | .int i=>intBits i≤B
 | .pair a b=>intBits a≤B∧intBits b≤B
instance decSm (B:Nat):(w:Wd)→Decidable (Sm B w)
 | .non=>.isTrue trivial
 | .int i=>inferInstanceAs (Decidable (intBits i≤B))
 | .pair a b=>inferInstanceAs (Decidable (intBits a≤B∧intBits b≤B))
theorem Sm.mono {B C:Nat} (h:B≤C):∀ {w:Wd},Sm B w→Sm C w
 | .non,_=>trivial
 | .int _,z=>Nat.le_trans z h
 | .pair _ _,z=>⟨Nat.le_trans z.1 h,Nat.le_trans z.2 h⟩
def Big:Nat:=16000000
theorem big_mul {i j:Int} (hi:intBits i≤Big) (hj:intBits j≤Big):IntMulOk i j:=IntMulOk.of_le hi hj (by decide)
theorem bits_nat {n B:Nat} (h:n < 2 ^ B):intBits (n:Int)≤B:=intBits_le_iff.mpr (by simpa using h)
theorem bitAnd_nat (a b:Nat):Builtin.bitAnd (a:Int) (b:Int)=((a &&& b:Nat):Int):=by
 unfold Builtin.bitAnd
 rw [decide_eq_true (Int.natCast_nonneg a),decide_eq_true (Int.natCast_nonneg b)]
 rfl
theorem bitOr_nat (a b:Nat):Builtin.bitOr (a:Int) (b:Int)=((a ||| b:Nat):Int):=by
 unfold Builtin.bitOr Builtin.bitAnd Builtin.bitNot
 rw [decide_eq_false (show ¬ (0:Int)≤-(a:Int) - 1 by omega),decide_eq_false (show ¬ (0:Int)≤-(b:Int) - 1 by omega)]
 dsimp only
 rw [show (-(-(a:Int) - 1) - 1).toNat=a by omega,show (-(-(b:Int) - 1) - 1).toNat=b by omega]
 omega
theorem shl_nat (a k:Nat):(a:Int) * 2 ^ ((k:Int)).toNat=((a <<< k:Nat):Int):=by
 rw [Nat.shiftLeft_eq,Int.natCast_mul,pow_cast,Int.toNat_natCast]
theorem shr_nat (a k:Nat):(a:Int) / 2 ^ ((k:Int)).toNat=((a >>> k:Nat):Int):=by
 rw [Nat.shiftRight_eq_div_pow,Int.natCast_ediv,pow_cast,Int.toNat_natCast]
theorem mask_nat (m:Nat):(1:Int) * 2 ^ ((m:Int)).toNat - 1=((2 ^ m - 1:Nat):Int):=by
 have:0 < 2 ^ m:=Nat.two_pow_pos m
 rw [Int.one_mul,Int.toNat_natCast,← pow_cast]; omega
theorem bit_test (a k:Nat):(Builtin.bitAnd ((a >>> k:Nat):Int) 1 != 0)=a.testBit k:=by
 rw [show (1:Int)=((1:Nat):Int) from rfl,bitAnd_nat]
 unfold Nat.testBit
 rw [Nat.and_comm]
 generalize 1 &&& a >>> k=z
 cases z with
 | zero=>rfl
 | succ z=>simp; omega
def kno:Kd→Int
 | .fewest=>0 | .widest=>1 | .counted=>2 | .likeliest=>3 | .chances=>4 | .musts=>5 | .rests _=>6
theorem noneW_kno (kd:Kd) (ok:KdOk kd):noneW (kno kd)=enc kd (ks kd ok).zero:=by cases kd <;> rfl
theorem restW_kno (kd:Kd) (ok:KdOk kd):restW (kno kd)=enc kd (ks kd ok).one:=by cases kd <;> rfl
end Ws
namespace Ws
open PySem
open Builtin.Int (intBits)
theorem num_le {t b:Int} (h:0 < b):(Rat.divInt t b).num.natAbs≤t.natAbs:=by
 rw [Rat.num_divInt,Int.sign_eq_one_of_pos h,Int.one_mul]
 exact Int.natAbs_ediv_le_natAbs _ _
theorem den_le {t b:Int} (h:0 < b):(Rat.divInt t b).den≤b.natAbs:=by
 rw [Rat.den_divInt,if_neg (by omega)]
 exact Nat.div_le_self _ _
theorem sm_div {t b:Int} {B:Nat} (h:0 < b) (h1:intBits t≤B) (h2:intBits b≤B):Sm B (ofR (Rat.divInt t b)) :=
 ⟨intBits_le_of_natAbs (num_le h) h1,intBits_le_of_natAbs (by have:=den_le (t:=t) h; omega) h2⟩
theorem sm_addR {p q:Rat} {B C:Nat} (h1:Sm B (ofR p)) (h2:Sm C (ofR q)):Sm (B + C + 1) (ofR (p + q)):=by
 have e:p + q=Rat.divInt (p.num * q.den + q.num * p.den) (p.den * q.den):=by
  rw [← Rat.divInt_add_divInt _ _ (Int.ne_of_gt (den_pos p)) (Int.ne_of_gt (den_pos q)),Rat.num_divInt_den,Rat.num_divInt_den]
 rw [e]
 refine sm_div (Int.mul_pos (den_pos p) (den_pos q)) ?_ ?_
 ·have:=intBits_add_le (intBits_mul_le h1.1 h2.2) (intBits_mul_le h2.1 h1.2)
  omega
 ·have:=intBits_mul_le h1.2 h2.2
  omega
theorem sm_mulR {p q:Rat} {B C:Nat} (h1:Sm B (ofR p)) (h2:Sm C (ofR q)):Sm (B + C) (ofR (p * q)):=by
 have e:p * q=Rat.divInt (p.num * q.num) (p.den * q.den):=by
  rw [← Rat.divInt_mul_divInt,Rat.num_divInt_den,Rat.num_divInt_den]
 rw [e]
 exact sm_div (Int.mul_pos (den_pos p) (den_pos q)) (intBits_mul_le h1.1 h2.1) (intBits_mul_le h1.2 h2.2)
theorem sm_max {p q:Rat} {B C:Nat} (h1:Sm B (ofR p)) (h2:Sm C (ofR q)):Sm (B + C) (ofR (rmax p q)):=by
 unfold rmax
 split
 ·exact h2.mono (by omega)
 ·exact h1.mono (by omega)
theorem sm_nat {n m B:Nat} (h:n≤m) (hm:Sm B (.int (m:Int))):Sm B (.int (n:Int)):=intBits_le_of_natAbs (by omega) hm
theorem sm_lt {n B:Nat} (h:n < 2 ^ B):Sm B (.int (n:Int)):=bits_nat h
theorem lt_sm {n B:Nat} (h:Sm B (.int (n:Int))):n < 2 ^ B:=by have:=intBits_le_iff.mp h; simpa using this
theorem sm_add {kd:Kd} {ok:KdOk kd} {x y:Car kd} {B C:Nat} (h1:Sm B (enc kd x)) (h2:Sm C (enc kd y)):Sm (B + C + 1) (enc kd ((ks kd ok).add x y)):=by
 cases kd with
 | fewest =>
  rcases x with _ | i
  ·cases y <;> exact h2.mono (by omega)
  ·rcases y with _ | j
   ·exact h1.mono (by omega)
   ·exact (sm_nat (Nat.min_le_left i j) h1).mono (by omega)
 | widest =>
  by_cases c:x.1≤y.1
  ·exact (sm_nat (show max x.1 y.1≤y.1 by omega) h2).mono (by omega)
  ·exact (sm_nat (show max x.1 y.1≤x.1 by omega) h1).mono (by omega)
 | counted =>
  rcases x with _ | i
  ·exact h1.mono (by omega)
  ·rcases y with _ | j
   ·exact h2.mono (by omega)
   ·refine sm_lt ?_
    have:=lt_sm h1
    have:=lt_sm h2
    have e1:2 ^ B≤2 ^ (B + C):=Nat.pow_le_pow_right (by decide) (by omega)
    have e2:2 ^ C≤2 ^ (B + C):=Nat.pow_le_pow_right (by decide) (by omega)
    rw [Nat.pow_succ]; omega
 | likeliest=>exact (sm_max h1 h2).mono (by omega)
 | chances=>exact sm_addR h1 h2
 | musts =>
  rcases x with _ | i
  ·cases y <;> exact h2.mono (by omega)
  ·rcases y with _ | j
   ·exact h1.mono (by omega)
   ·exact (sm_nat Nat.and_le_left h1).mono (by omega)
 | rests m =>
  refine sm_lt ?_
  have l1:=lt_sm h1
  have l2:=lt_sm h2
  have e1:2 ^ B≤2 ^ (B + C + 1):=Nat.pow_le_pow_right (by decide) (by omega)
  have e2:2 ^ C≤2 ^ (B + C + 1):=Nat.pow_le_pow_right (by decide) (by omega)
  exact Nat.or_lt_two_pow (by omega) (by omega)
theorem sm_mul {kd:Kd} {ok:KdOk kd} {x y:Car kd} {B C:Nat} (h1:Sm B (enc kd x)) (h2:Sm C (enc kd y)):Sm (B + C + 12) (enc kd ((ks kd ok).mul x y)):=by
 cases kd with
 | fewest =>
  rcases x with _ | i
  ·exact trivial
  ·rcases y with _ | j
   ·exact trivial
   ·refine sm_lt ?_
    have:=lt_sm h1
    have:=lt_sm h2
    have e1:2 ^ B≤2 ^ (B + C):=Nat.pow_le_pow_right (by decide) (by omega)
    have e2:2 ^ C≤2 ^ (B + C):=Nat.pow_le_pow_right (by decide) (by omega)
    have e3:2 ^ (B + C + 1)≤2 ^ (B + C + 12):=Nat.pow_le_pow_right (by decide) (by omega)
    rw [Nat.pow_succ] at e3; omega
 | widest=>exact (sm_nat (show min x.1 y.1≤x.1 by omega) h1).mono (by omega)
 | counted =>
  rcases x with _ | i
  ·rcases y with _ | _ | j
   ·exact (show Sm 1 (.int (-1)) by decide).mono (by omega)
   ·exact (show Sm 1 (.int 0) by decide).mono (by omega)
   ·exact (show Sm 1 (.int (-1)) by decide).mono (by omega)
  ·rcases y with _ | j
   ·rcases i with _ | i
    ·exact (show Sm 1 (.int 0) by decide).mono (by omega)
    ·exact (show Sm 1 (.int (-1)) by decide).mono (by omega)
   ·show Sm _ (enc .counted (oMul (some i) (some j)))
    rw [oMul_some]
    have:=intBits_mul_le h1 h2
    show intBits ((i * j:Nat):Int)≤_
    rw [Int.natCast_mul]; omega
 | likeliest=>exact (sm_mulR h1 h2).mono (by omega)
 | chances=>exact (sm_mulR h1 h2).mono (by omega)
 | musts =>
  rcases x with _ | i
  ·exact trivial
  ·rcases y with _ | j
   ·exact trivial
   ·refine sm_lt ?_
    have l1:=lt_sm h1
    have l2:=lt_sm h2
    have e1:2 ^ B≤2 ^ (B + C + 12):=Nat.pow_le_pow_right (by decide) (by omega)
    have e2:2 ^ C≤2 ^ (B + C + 12):=Nat.pow_le_pow_right (by decide) (by omega)
    exact Nat.or_lt_two_pow (by omega) (by omega)
 | rests m =>
  refine (sm_lt (B:=12) ?_).mono (by omega)
  exact Nat.lt_of_lt_of_le (behN_lt y.2) (Nat.pow_le_pow_right (by decide) ok.2)
theorem sm_star {kd:Kd} {ok:KdOk kd} {x s:Car kd} {B:Nat} (h:Sm B (enc kd x)) (e:(ks kd ok).star x=some s):Sm (B + 30) (enc kd s):=by
 cases kd with
 | fewest=>cases e; exact (show Sm 1 (.int 0) by decide).mono (by omega)
 | widest=>cases e; exact (show Sm 30 (.int 1000000000) by decide).mono (by omega)
 | counted =>
  cases e
  rcases x with _ | _ | n
  ·exact (show Sm 1 (.int (-1)) by decide).mono (by omega)
  ·exact (show Sm 1 (.int 1) by decide).mono (by omega)
  ·exact (show Sm 1 (.int (-1)) by decide).mono (by omega)
 | likeliest=>cases e; exact (show Sm 1 (.pair 1 1) by decide).mono (by omega)
 | chances =>
  have e:(if h:x.1 < 1 then some (⟨(1 - x.1)⁻¹,rinv_nonneg h⟩:Cha) else none)=some s:=e
  split at e
  ·rename_i lt
   cases e
   have l:=lt_one.mpr lt
   have n:=Rat.num_nonneg.mpr x.2
   have:Sm (B + 30) (ofR (Rat.divInt x.1.den (x.1.den - x.1.num))):=by
    refine (sm_div (B:=B) (by omega) h.2 (intBits_le_of_natAbs (y:=x.1.den) (by omega) h.2)).mono (by omega)
   rw [← Rat.inv_divInt,lack_divInt] at this
   exact this
  ·cases e
 | musts=>cases e; exact (show Sm 1 (.int 0) by decide).mono (by omega)
 | rests m =>
  cases e
  refine (sm_lt (B:=12) ?_).mono (by omega)
  exact Nat.lt_of_lt_of_le (rndTo_lt ok.1 x.2 m) (Nat.pow_le_pow_right (by decide) ok.2)
theorem sm_one (kd:Kd) (ok:KdOk kd):Sm 30 (enc kd (ks kd ok).one):=by
 cases kd with
 | fewest=>exact (show Sm 30 (.int 0) by decide)
 | widest=>exact (show Sm 30 (.int 1000000000) by decide)
 | counted=>exact (show Sm 30 (.int 1) by decide)
 | likeliest=>exact (show Sm 30 (.pair 1 1) by decide)
 | chances=>exact (show Sm 30 (.pair 1 1) by decide)
 | musts=>exact (show Sm 30 (.int 0) by decide)
 | rests m=>exact (show Sm 1 (.int 1) by decide).mono (by decide)
theorem sm_zero (kd:Kd) (ok:KdOk kd):Sm 1 (enc kd (ks kd ok).zero):=by
 cases kd with
 | fewest=>exact (show Sm 1 (.non) by decide)
 | widest=>exact (show Sm 1 (.int 0) by decide)
 | counted=>exact (show Sm 1 (.int 0) by decide)
 | likeliest=>exact (show Sm 1 (.pair 0 1) by decide)
 | chances=>exact (show Sm 1 (.pair 0 1) by decide)
 | musts=>exact (show Sm 1 (.non) by decide)
 | rests m=>exact (show Sm 1 (.int 0) by decide)
end Ws
namespace Ws
open PySem
open Builtin.Int (intBits)
structure Road where
 f:Int
 t:Int
 w:Wd
 deriving DecidableEq
def toR:Wd→Rat
 | .pair a b=>Rat.divInt a b
 | _=>0
theorem toR_ofR (q:Rat):toR (ofR q)=q:=Rat.num_divInt_den q
theorem ofR_toR:∀ {w:Wd},isShare w=true→ofR (toR w)=w
 | .pair a b,h=>by
  obtain ⟨q,rfl,rfl⟩:=share_is h
  show ofR (Rat.divInt q.num q.den)=ofR q
  rw [Rat.num_divInt_den]
def shSum (ws:List Wd):Rat:=((ws.filter isShare).map toR).sum
def mayB:Kd→List Wd→Bool
 | .chances,ws=>decide (shSum ws≤1)
 | _,_=>true
def frm (p:Int) (rs:List Road):List Wd:=(rs.filter fun r=>decide (r.f=p)).map (·.w)
def endOk (n:Int) (r:Road):Bool:=decide (0≤r.f) && decide (r.f < n) && (decide (0≤r.t) && decide (r.t < n))
def numsOk (n:Int) (k:Nat):Bool:=decide (1≤n) && decide (n≤8) && decide (k≤64)
def startsOk (kd:Kd) (n:Int) (rs:List Road):Bool:=(List.range n.toNat).all fun p=>mayB kd (frm (p:Int) rs)
def worthsOk (kd:Kd) (rs:List Road):Bool:=rs.all fun r=>isWorth kd r.w
def netYes (kd:Kd) (n:Int) (rs:List Road):Bool:=numsOk n rs.length && (rs.all (endOk n) && startsOk kd n rs)
structure Good (kd:Kd) (most extra:Nat) (n:Nat) (rs:List Road):Prop where
 n1:1≤n
 n2:n≤most
 len:rs.length≤extra
 ends:rs.all (endOk n)=true
 worths:worthsOk kd rs=true
 sm:∀ r∈rs,Sm 200 r.w
 den:kd=.chances→∃ D:Int→Nat,∀ r∈rs,0 < D r.f∧D r.f < 2 ^ 24∧∃ k:Nat,toR r.w * (D r.f:Rat)=(k:Rat)
 starts:kd=.chances→∀ p:Int,shSum (frm p rs)≤1
theorem Good.yes {kd:Kd} {most extra n:Nat} {rs:List Road} (g:Good kd most extra n rs) (h8:most≤8) (h64:extra≤64):netYes kd n rs=true:=by
 have n1:=g.n1
 have n2:=g.n2
 have l:=g.len
 simp only [netYes,numsOk,Bool.and_eq_true,decide_eq_true_eq]
 refine ⟨⟨⟨by omega,by omega⟩,by omega⟩,g.ends,?_⟩
 simp only [startsOk,List.all_eq_true]
 intro p _
 cases kd <;> first | rfl | exact decide_eq_true (g.starts rfl p)
end Ws
namespace Ws
open PySem
open Builtin.Int (intBits)
theorem rat_of_mul {q:Rat} {D k:Nat} (hD:0 < D) (h:q * (D:Rat)=(k:Rat)):q=Rat.divInt (k:Int) (D:Int):=by
 have z:(D:Rat)≠0:=by exact_mod_cast (Nat.ne_of_gt hD)
 rw [Rat.divInt_eq_div,Rat.div_def,Rat.intCast_natCast,Rat.intCast_natCast,← h,Rat.mul_assoc,Rat.mul_inv_cancel _ z,Rat.mul_one]
theorem sm_of_mul {q:Rat} {D k B:Nat} (hD:0 < D) (h:q * (D:Rat)=(k:Rat)) (h1:k < 2 ^ B) (h2:D < 2 ^ B):Sm B (ofR q):=by
 rw [rat_of_mul hD h]
 exact sm_div (by omega) (bits_nat h1) (bits_nat h2)
theorem frm_len (p:Int) (rs:List Road):(frm p rs).length≤rs.length:=by
 unfold frm; rw [List.length_map]; exact List.length_filter_le _ _
end Ws
namespace Ws
theorem no_nums {kd:Kd} {n:Int} {rs:List Road} (h:¬ (1≤n∧n≤8∧rs.length≤64)):netYes kd n rs=false:=by
 have:numsOk n rs.length=false:=by simp only [numsOk,Bool.and_eq_false_iff,decide_eq_false_iff_not]; omega
 rw [netYes,this]; rfl
theorem no_end {kd:Kd} {n:Int} {rs:List Road} {r:Road} (hr:r∈rs) (h:¬ (0≤r.f∧r.f < n∧0≤r.t∧r.t < n)):netYes kd n rs=false:=by
 have:rs.all (endOk n)=false:=by
  rw [List.all_eq_false]
  refine ⟨r,hr,?_⟩
  simp only [endOk,Bool.and_eq_true,decide_eq_true_eq]; omega
 rw [netYes,this]; simp
end Ws
namespace Ws
end Ws
namespace Ws
open PySem
structure Edge (S:Type) where
 f:Nat
 t:Nat
 c:S
def Edge.road (kd:Kd) (e:Edge (Car kd)):Road:=⟨e.f,e.t,enc kd e.c⟩
structure Graph (kd:Kd) (n:Nat) (es:List (Edge (Car kd))):Prop where
 nb:n≤8
 ends:∀ e∈es,e.f < n∧e.t < n
 sm:∀ e∈es,Sm 200 (enc kd e.c)
 den:kd=.chances→∃ L:Nat,0 < L∧L < 2 ^ 192∧∀ e∈es,∃ k:Nat,toR (enc kd e.c) * (L:Rat)=(k:Rat)
 sub:kd=.chances→∀ p:Int,shSum (frm p (es.map (Edge.road kd)))≤1
def prodTo (f:Nat→Nat):Nat→Nat
 | 0=>1
 | n + 1=>prodTo f n * f n
def walkE {S:Type} (M:KSR S) (es:List (Edge S)):Nat→S→List Int→Option (Nat × S)
 | h,x,[]=>some (h,x)
 | h,x,k :: row=>if k < 0∨(es.length:Int)≤k then none else match es[k.toNat]? with
  | none=>none
  | some e=>if e.f=h then walkE M es e.t (M.mul x e.c) row else none
end Ws
namespace Ws
structure Walked {S:Type} (M:KSR S) (es:List (Edge S)) (p:Nat) (row ss:List Nat) (x:S):Prop where
 len:ss.length=row.length + 1
 at_:∀ j,j≤row.length→∃ h y,ss[j]?=some h∧walkE M es p M.one ((row.take j).map fun k:Nat=>(k:Int))=some (h,y)
 end_:∃ h,ss[row.length]?=some h∧walkE M es p M.one (row.map fun k:Nat=>(k:Int))=some (h,x)
end Ws
namespace Ws
end Ws
namespace Ws
namespace KSR
variable {S : Type} (M : KSR S)
def sum (l:List S):S:=l.foldr M.add M.zero
theorem sum_app:∀ l r:List S,M.sum (l ++ r)=M.add (M.sum l) (M.sum r)
 | [],r=>(M.zero_add _).symm
 | x :: l,r=>by
  show M.add x (M.sum (l ++ r))=_
  rw [sum_app l r,← M.add_assoc]; rfl
theorem sum_snoc (l:List S) (x:S):M.sum (l ++ [x])=M.add (M.sum l) x:=by
 rw [M.sum_app]
 show M.add _ (M.add x M.zero)=_
 rw [M.add_zero]
theorem sum_mul (c:S):∀ l:List S,M.mul (M.sum l) c=M.sum (l.map fun x=>M.mul x c)
 | []=>M.zero_mul c
 | x :: l=>by
  show M.mul (M.add x (M.sum l)) c=M.add (M.mul x c) (M.sum (l.map _))
  rw [M.add_mul,sum_mul c l]
theorem add4 (a b c d:S):M.add (M.add a b) (M.add c d)=M.add (M.add a c) (M.add b d):=by
 rw [M.add_assoc,M.add_assoc,← M.add_assoc b,M.add_comm b c,M.add_assoc c]
theorem sum_congr {α:Type} {f g:α→S}:∀ {l:List α},(∀ x∈l,f x=g x)→M.sum (l.map f)=M.sum (l.map g)
 | [],_=>rfl
 | x :: l,h=>by
  show M.add (f x) (M.sum (l.map f))=M.add (g x) (M.sum (l.map g))
  rw [h x List.mem_cons_self,sum_congr fun y hy=>h y (List.mem_cons_of_mem _ hy)]
def when (p:Prop) [Decidable p] (x:S):S:=if p then x else M.zero
theorem when_mul (p:Prop) [Decidable p] (x c:S):M.mul (M.when p x) c=M.when p (M.mul x c):=by
 unfold KSR.when; split
 ·rfl
 ·exact M.zero_mul c
theorem when_when (p q:Prop) [Decidable p] [Decidable q] (x:S):M.when p (M.when q x)=M.when q (M.when p x):=by
 unfold KSR.when; split <;> split <;> rfl
end KSR
section
variable {S : Type} (M : KSR S) (es : List (Edge S))
def stepV (f:Nat→S) (t:Nat):S:=M.sum (es.map fun e=>M.when (e.t=t) (M.mul (f e.f) e.c))
def unitV (p:Nat):Nat→S:=fun i=>M.when (i=p) M.one
def stepsV (p:Nat):Nat→Nat→S
 | 0=>unitV M p
 | k + 1=>stepV M es (stepsV p k)
end
end Ws
namespace Ws
open PySem
theorem sm_add2 {kd:Kd} {ok:KdOk kd} (hc:kd≠.chances) {x y:Car kd} {B:Nat} (h1:Sm B (enc kd x)) (h2:Sm B (enc kd y)):Sm (B + 1) (enc kd ((ks kd ok).add x y)):=by
 cases kd with
 | fewest =>
  rcases x with _ | i
  ·cases y <;> exact h2.mono (by omega)
  ·rcases y with _ | j
   ·exact h1.mono (by omega)
   ·exact (sm_nat (Nat.min_le_left i j) h1).mono (by omega)
 | widest =>
  by_cases c:x.1≤y.1
  ·exact (sm_nat (show max x.1 y.1≤y.1 by omega) h2).mono (by omega)
  ·exact (sm_nat (show max x.1 y.1≤x.1 by omega) h1).mono (by omega)
 | counted =>
  rcases x with _ | i
  ·exact h1.mono (by omega)
  ·rcases y with _ | j
   ·exact h2.mono (by omega)
   ·refine sm_lt ?_
    have:=lt_sm h1
    have:=lt_sm h2
    rw [Nat.pow_succ]; omega
 | likeliest =>
  show Sm (B + 1) (ofR (rmax x.1 y.1))
  unfold rmax
  split
  ·exact h2.mono (by omega)
  ·exact h1.mono (by omega)
 | chances=>exact absurd rfl hc
 | musts =>
  rcases x with _ | i
  ·cases y <;> exact h2.mono (by omega)
  ·rcases y with _ | j
   ·exact h1.mono (by omega)
   ·exact (sm_nat Nat.and_le_left h1).mono (by omega)
 | rests m =>
  refine (sm_lt ?_).mono (Nat.le_succ B)
  exact Nat.or_lt_two_pow (lt_sm h1) (lt_sm h2)
def Over (D:Nat) (e:Edge Cha) (q:Edge (Option Nat)):Prop:=e.f=q.f∧e.t=q.t∧∃ k:Nat,q.c=some k∧e.c.1 * (D:Rat)=(k:Rat)
theorem over_step {D Dk:Nat} {f:Nat→Cha} {g:Nat→Option Nat} (h:∀ i,∃ N:Nat,g i=some N∧(f i).1 * (Dk:Rat)=(N:Rat)) (t:Nat) :
  ∀ {es:List (Edge Cha)} {ps:List (Edge (Option Nat))},PySem.Paired (Over D) es ps→∃ N:Nat,stepV ksCounted ps g t=some N∧(stepV ksChances es f t).1 * ((Dk * D:Nat):Rat)=(N:Rat)
 | _,_,.nil=>⟨0,rfl,by show (0:Rat) * _=_; rw [Rat.zero_mul]; rfl⟩
 | e :: es,q :: ps,.cons ⟨e1,e2,k,e3,e4⟩ r=>by
  obtain ⟨N,n1,n2⟩:=over_step (D:=D) h t r
  obtain ⟨A,a1,a2⟩:=h e.f
  have hc:∃ B:Nat,ksCounted.when (q.t=t) (ksCounted.mul (g q.f) q.c)=some B∧(ksChances.when (e.t=t) (ksChances.mul (f e.f) e.c)).1 * ((Dk * D:Nat):Rat)=(B:Rat):=by
   rw [← e1,← e2,e3,a1]
   unfold KSR.when
   by_cases c:e.t=t
   ·rw [if_pos c,if_pos c]
    refine ⟨A * k,oMul_some A k,?_⟩
    show (f e.f).1 * e.c.1 * _=_
    rw [Rat.natCast_mul,Rat.natCast_mul,← a2,← e4]
    generalize (f e.f).1=u
    generalize e.c.1=v
    generalize (Dk:Rat)=w1
    generalize (D:Rat)=w2
    grind
   ·rw [if_neg c,if_neg c]
    exact ⟨0,rfl,by show (0:Rat) * _=_; rw [Rat.zero_mul]; rfl⟩
  obtain ⟨B,b1,b2⟩:=hc
  refine ⟨B + N,?_,?_⟩
  ·show ksCounted.add (ksCounted.when (q.t=t) (ksCounted.mul (g q.f) q.c)) (stepV ksCounted ps g t)=_
   rw [b1,n1]; rfl
  ·show ((ksChances.when (e.t=t) (ksChances.mul (f e.f) e.c)).1 + (stepV ksChances es f t).1) * _=_
   rw [Rat.natCast_add,← b2,← n2]
   generalize (ksChances.when (e.t=t) (ksChances.mul (f e.f) e.c)).1=u
   generalize (stepV ksChances es f t).1=v
   generalize ((Dk * D:Nat):Rat)=w1
   grind
theorem over_steps {D:Nat} {es:List (Edge Cha)} {ps:List (Edge (Option Nat))} (r:PySem.Paired (Over D) es ps) (p:Nat):∀ k i,∃ N:Nat,stepsV ksCounted ps p k i=some N∧(stepsV ksChances es p k i).1 * ((D ^ k:Nat):Rat)=(N:Rat)
 | 0,i=>by
  show ∃ N:Nat,ksCounted.when (i=p) ksCounted.one=some N∧(ksChances.when (i=p) ksChances.one).1 * _=_
  unfold KSR.when
  by_cases c:i=p
  ·rw [if_pos c,if_pos c]; exact ⟨1,rfl,by show (1:Rat) * _=_; rw [Rat.one_mul,Nat.pow_zero]⟩
  ·rw [if_neg c,if_neg c]; exact ⟨0,rfl,by show (0:Rat) * _=_; rw [Rat.zero_mul]; rfl⟩
 | k + 1,i=>by
  rw [Nat.pow_succ]
  exact over_step (fun j=>over_steps r p k j) i r
theorem rat_mul_den (p:Rat):p * (p.den:Rat)=(p.num:Rat):=by
 have z:(p.den:Rat)≠0:=by intro z; have:=p.den_nz; exact this (by exact_mod_cast z)
 have e:p=(p.num:Rat) / ((p.den:Int):Rat):=by
  conv=>lhs; rw [← Rat.num_divInt_den p]
  rw [Rat.divInt_eq_div]
 rw [Rat.intCast_natCast] at e
 rw [Rat.div_def] at e
 have:=congrArg (fun x=>x * (p.den:Rat)) e
 refine this.trans ?_
 show (p.num:Rat) * (p.den:Rat)⁻¹ * (p.den:Rat)=p.num
 rw [Rat.mul_assoc,Rat.inv_mul_cancel _ z,Rat.mul_one]
def OverP (D:Nat) (es:List (Edge (Car .chances))) (ps:List (Edge (Car .counted))):Prop:=PySem.Paired (Over D) es ps
theorem OverP.nil (D:Nat):OverP D [] []:=PySem.Paired.nil
theorem OverP.snoc {D:Nat} {es:List (Edge (Car .chances))} {ps:List (Edge (Car .counted))} {e:Edge (Car .chances)} {k:Nat} (h:OverP D es ps) (e4:e.c.1 * (D:Rat)=(k:Rat)):OverP D (es ++ [e]) (ps ++ [⟨e.f,e.t,some k⟩]):=PySem.Paired.snoc h ⟨rfl,rfl,k,rfl,e4⟩
end Ws
namespace Ws
open PySem
theorem sm_step {kd : Kd} {ok : KdOk kd} (hc : kd ≠ .chances) {es : List (Edge (Car kd))} {R B : Nat} (hR : ∀ e ∈ es, Sm R (enc kd e.c)) {f : Nat → Car kd} (hf : ∀ e ∈ es, Sm B (enc kd (f e.f))) (t : Nat) :
    Sm (B + R + 13 + es.length) (enc kd (stepV (ks kd ok) es f t)) := by
  induction es with
  | nil => exact (sm_zero kd ok).mono (by have : 1 ≤ 13 := by decide
                                          omega)
  | cons e es ih =>
    have ih := ih (fun x hx => hR x (List.mem_cons_of_mem _ hx)) (fun x hx => hf x (List.mem_cons_of_mem _ hx))
    have a := sm_mul (ok := ok) (hf e List.mem_cons_self) (hR e List.mem_cons_self)
    show Sm _ (enc kd ((ks kd ok).add ((ks kd ok).when (e.t = t) ((ks kd ok).mul (f e.f) e.c)) (stepV (ks kd ok) es f t)))
    have a2 : Sm (B + R + 13 + es.length) (enc kd ((ks kd ok).when (e.t = t) ((ks kd ok).mul (f e.f) e.c))) := by
      unfold KSR.when
      split
      · exact a.mono (by omega)
      · exact (sm_zero kd ok).mono (by omega)
    exact (sm_add2 hc a2 ih).mono (by rw [List.length_cons]; omega)
theorem sm_steps {kd:Kd} {ok:KdOk kd} (hc:kd≠.chances) {es:List (Edge (Car kd))} {R:Nat} (hR:∀ e∈es,Sm R (enc kd e.c)) (hl:es.length≤64) (p:Nat):∀ k i,Sm (k * (R + 80) + 30) (enc kd (stepsV (ks kd ok) es p k i))
 | 0,i=>by
  show Sm _ (enc kd ((ks kd ok).when (i=p) (ks kd ok).one))
  unfold KSR.when
  split
  ·exact (sm_one kd ok).mono (by omega)
  ·exact (sm_zero kd ok).mono (by omega)
 | k + 1,i=>(sm_step hc hR (fun e _=>sm_steps hc hR hl p k e.f) i).mono (by rw [Nat.succ_mul]; omega)
structure Fits (kd:Kd) (ok:KdOk kd) (es:List (Edge (Car kd))) (p k B:Nat):Prop where
 at_:∀ i,i≤k→∀ t,Sm B (enc kd (stepsV (ks kd ok) es p i t))
 mul:∀ i,i < k→∀ e∈es,Sm B (enc kd ((ks kd ok).mul (stepsV (ks kd ok) es p i e.f) e.c))
 sum:∀ i,i < k→∀ j t,Sm B (enc kd (stepV (ks kd ok) (es.take j) (stepsV (ks kd ok) es p i) t))
theorem Fits.mono {kd:Kd} {ok:KdOk kd} {es:List (Edge (Car kd))} {p k B C:Nat} (F:Fits kd ok es p k B) (h:B≤C):Fits kd ok es p k C:=⟨fun i hi t=>(F.at_ i hi t).mono h,fun i hi e he=>(F.mul i hi e he).mono h,fun i hi j t=>(F.sum i hi j t).mono h⟩
theorem fits_plain {kd:Kd} {ok:KdOk kd} (hc:kd≠.chances) {es:List (Edge (Car kd))} {R:Nat} (hR:∀ e∈es,Sm R (enc kd e.c)) (hl:es.length≤64) (p k:Nat):Fits kd ok es p k (k * (R + 80) + 30 + R):=by
 have mono:∀ i,i≤k→i * (R + 80)≤k * (R + 80):=fun i hi=>Nat.mul_le_mul_right _ hi
 refine ⟨fun i hi t=>(sm_steps hc hR hl p i t).mono (by have:=mono i hi; omega),fun i hi e he=>?_,fun i hi j t=>?_⟩
 ·refine (sm_mul (sm_steps hc hR hl p i e.f) (hR e he)).mono ?_
  have:=mono (i + 1) hi
  rw [Nat.succ_mul] at this; omega
 ·refine (sm_step hc (es:=es.take j) (fun e he=>hR e (List.mem_of_mem_take he)) (fun e _=>sm_steps hc hR hl p i e.f) t).mono ?_
  have:=mono (i + 1) hi
  have l2:(es.take j).length≤64:=by rw [List.length_take]; omega
  rw [Nat.succ_mul] at this; omega
theorem overP_of {L:Nat}:∀ {es:List (Edge (Car .chances))},(∀ e∈es,∃ k:Nat,toR (enc .chances e.c) * (L:Rat)=(k:Rat))→∃ ps:List (Edge (Car .counted)),PySem.Paired (Over L) es ps∧∀ q∈ps,∃ e∈es,∃ k:Nat,q.c=(some k:Option Nat)∧e.c.1 * (L:Rat)=(k:Rat)
 | [],_=>⟨[],.nil,fun q hq=>nomatch hq⟩
 | e :: es,h=>by
  obtain ⟨ps,hp,hq⟩:=overP_of fun x hx=>h x (List.mem_cons_of_mem _ hx)
  obtain ⟨k,ek⟩:=h e List.mem_cons_self
  have ek:e.c.1 * (L:Rat)=(k:Rat):=by
   have:toR (enc .chances e.c)=e.c.1:=toR_ofR _
   rw [this] at ek; exact ek
  refine ⟨⟨e.f,e.t,(some k:Option Nat)⟩ :: ps,.cons ⟨rfl,rfl,k,rfl,ek⟩ hp,fun q hq'=>?_⟩
  rcases List.mem_cons.mp hq' with rfl | hq'
  ·exact ⟨e,List.mem_cons_self,k,rfl,ek⟩
  ·obtain ⟨e',he',r⟩:=hq q hq'
   exact ⟨e',List.mem_cons_of_mem _ he',r⟩
theorem nat_of_mul {q:Rat} {L k B C:Nat} (h:q * (L:Rat)=(k:Rat)) (hq:Sm B (ofR q)) (hL:L < 2 ^ C) (h0:0≤q):k < 2 ^ (B + C):=by
 have n0:0≤q.num:=Rat.num_nonneg.mpr h0
 have hb:q.num.natAbs < 2 ^ B:=intBits_le_iff.mp hq.1
 have e:(k:Rat) * (q.den:Rat)=((q.num.toNat * L:Nat):Rat):=by
  rw [Rat.natCast_mul,show ((q.num.toNat:Nat):Rat)=((q.num:Int):Rat) by rw [← Rat.intCast_natCast,Int.toNat_of_nonneg n0],← rat_mul_den q,← h]
  generalize (q.den:Rat)=x
  generalize (L:Rat)=y
  grind
 have e:k * q.den=q.num.toNat * L:=by
  rw [← Rat.natCast_mul] at e
  exact_mod_cast e
 have d:=den_pos q
 have:k≤k * q.den:=Nat.le_mul_of_pos_right _ (by omega)
 calc k≤q.num.toNat * L:=by omega
  _ < 2 ^ B * 2 ^ C:=Nat.mul_lt_mul'' (by omega) hL
  _=2 ^ (B + C):=by rw [← Nat.pow_add]
theorem paired_take' {α β:Type} {F:α→β→Prop}:∀ {xs:List α} {ys:List β} (k:Nat),PySem.Paired F xs ys→PySem.Paired F (xs.take k) (ys.take k)
 | _,_,0,_=>by rw [List.take_zero,List.take_zero]; exact .nil
 | [],[],_ + 1,.nil=>.nil
 | _ :: _,_ :: _,k + 1,.cons h t=>.cons h (paired_take' k t)
theorem sm_frac {q:Rat} {L N i B:Nat} (L0:0 < L) (L1:L < 2 ^ 192) (h:q * ((L ^ i:Nat):Rat)=(N:Rat)) (hN:Sm B (.int (N:Int))):Sm (B + 192 * i + 1) (ofR q):=by
 have b:=lt_sm hN
 refine sm_of_mul (k:=N) (D:=L ^ i) (Nat.pow_pos L0) h (Nat.lt_of_lt_of_le b (Nat.pow_le_pow_right (by decide) (by omega))) ?_
 have p1:L ^ i≤(2 ^ 192) ^ i:=Nat.pow_le_pow_left (Nat.le_of_lt L1) i
 rw [← Nat.pow_mul] at p1
 have:2 ^ (192 * i) < 2 ^ (B + 192 * i + 1):=Nat.pow_lt_pow_right (by decide) (by omega)
 omega
theorem fits_chances {es:List (Edge (Car .chances))} {n:Nat} (G:Graph .chances n es) (hl:es.length≤64) (p k:Nat):Fits .chances trivial es p k (k * 664 + 900):=by
 obtain ⟨L,L0,L1,hL⟩:=G.den rfl
 obtain ⟨ps,hov,hps⟩:=overP_of hL
 have pl:ps.length≤64:=Nat.le_trans (Nat.le_of_eq hov.length.symm) hl
 have hR:∀ q∈ps,Sm 392 (enc .counted q.c):=fun q hq=>by
  obtain ⟨e,he,j,e1,e2⟩:=hps q hq
  rw [e1]
  exact sm_lt (nat_of_mul (B:=200) (C:=192) e2 (G.sm e he) L1 e.c.2)
 have F:=fits_plain (kd:=.counted) (ok:=trivial) (by intro z; cases z) hR pl p k
 have st:∀ i t,∃ N:Nat,stepsV ksCounted ps p i t=some N∧(stepsV ksChances es p i t).1 * ((L ^ i:Nat):Rat)=(N:Rat):=over_steps hov p
 have b1:∀ i,i≤k→192 * i≤192 * k:=fun i hi=>Nat.mul_le_mul_left _ hi
 refine ⟨fun i hi t=>?_,fun i hi e he=>?_,fun i hi j t=>?_⟩
 ·obtain ⟨N,n1,n2⟩:=st i t
  have a:=F.at_ i hi t
  have e:stepsV (ks .counted trivial) ps p i t=(some N:Option Nat):=n1
  rw [e] at a
  exact (sm_frac L0 L1 n2 a).mono (by have:=b1 i hi; omega)
 ·obtain ⟨N,n1,n2⟩:=st i e.f
  have a:=F.at_ i (by omega) e.f
  have e':stepsV (ks .counted trivial) ps p i e.f=(some N:Option Nat):=n1
  rw [e'] at a
  have:=sm_mulR (sm_frac L0 L1 n2 a) (G.sm e he)
  exact Sm.mono (by have:=b1 i (by omega); omega) this
 ·obtain ⟨N,n1,n2⟩:=over_step (D:=L) (Dk:=L ^ i) (fun b=>st i b) t (paired_take' j hov)
  have a:=F.sum i hi j t
  have e:stepV (ks .counted trivial) (ps.take j) (stepsV (ks .counted trivial) ps p i) t=(some N:Option Nat):=n1
  rw [e] at a
  rw [← Nat.pow_succ] at n2
  exact (sm_frac L0 L1 n2 a).mono (by have:=b1 (i + 1) hi; omega)
theorem Graph.fits {kd:Kd} {ok:KdOk kd} {n:Nat} {es:List (Edge (Car kd))} (G:Graph kd n es) (hl:es.length≤64) (p:Nat) {k:Nat} (hk:k≤60):Fits kd ok es p k 50000:=by
 by_cases hc:kd=.chances
 ·subst hc
  exact (fits_chances G hl p k).mono (by omega)
 ·exact (fits_plain hc G.sm hl p k).mono (by omega)
end Ws
namespace Ws
open PySem
section
variable {S : Type} (M : KSR S)
abbrev Mat (S:Type):=Nat→Nat→S
def ledA (A:Mat S) (k:Nat) (r:S):Mat S:=fun i j=>M.add (A i j) (M.mul (M.mul (A i k) r) (A k j))
def stageA (A0:Mat S):Nat→Option (Mat S)
 | 0=>some A0
 | k + 1=>(stageA A0 k).bind fun A=>(M.star (A k k)).map fun r=>ledA M A k r
def tabA (A:Mat S):Mat S:=fun i j=>if i=j then M.add M.one (A i j) else A i j
abbrev KSR.to (k:Nat) (f:Nat→S):S:=M.sum ((List.range k).map f)
structure Rec (A0:Mat S) (k:Nat) (A:Mat S):Prop where
 fw:∀ i j,A i j=M.add (A0 i j) (M.to k fun l=>M.mul (A0 i l) (A l j))
 bw:∀ i j,A i j=M.add (A0 i j) (M.to k fun l=>M.mul (A i l) (A0 l j))
def edgeM (es:List (Edge S)):Mat S:=fun i j=>stepsV M es i 1 j
theorem edgeM_eq (es:List (Edge S)) (i j:Nat):edgeM M es i j=M.sum (es.map fun e=>M.when (e.f=i) (M.when (e.t=j) e.c)):=by
 show stepV M es (unitV M i) j=_
 unfold stepV unitV
 refine M.sum_congr fun e _=>?_
 rw [M.when_mul,M.one_mul,M.when_when]
end
end Ws
namespace Ws
theorem stage_none {S : Type} (M : KSR S) {A0 : Mat S} : ∀ {n k : Nat}, k ≤ n → stageA M A0 k = none → stageA M A0 n = none
  | 0, k, h, e => by obtain rfl : k = 0 := by omega
                     exact e
  | n + 1, k, h, e => by
    by_cases c : k = n + 1
    · subst c; exact e
    · have := stage_none M (show k ≤ n by omega) e
      unfold stageA; rw [this]; rfl
theorem stage_succ {S:Type} (M:KSR S) {A0 A:Mat S} {k:Nat} {r:S} (h:stageA M A0 k=some A) (hr:M.star (A k k)=some r):stageA M A0 (k + 1)=some (ledA M A k r):=by
 unfold stageA
 rw [h]
 show (M.star (A k k)).map _=_
 rw [hr]; rfl
theorem stage_fail {S:Type} (M:KSR S) {A0 A:Mat S} {k:Nat} (h:stageA M A0 k=some A) (hr:M.star (A k k)=none):stageA M A0 (k + 1)=none:=by
 unfold stageA
 rw [h]
 show (M.star (A k k)).map _=_
 rw [hr]; rfl
end Ws
namespace Ws
open PySem
structure Frac (b:Nat) (A:Mat Cha):Prop where
 ex:∃ d:Nat→Nat,∀ i,0 < d i∧d i < 2 ^ b∧∀ j,∃ a:Nat,a < 2 ^ b∧(A i j).1 * (d i:Rat)=(a:Rat)
theorem Frac.sm {b:Nat} {A:Mat Cha} (F:Frac b A) (i j:Nat):Sm b (ofR (A i j).1):=by
 obtain ⟨d,h⟩:=F.ex
 obtain ⟨d0,d1,h⟩:=h i
 obtain ⟨a,a1,e⟩:=h j
 exact sm_of_mul d0 e a1 d1
theorem Frac.led {b k:Nat} {A:Mat Cha} {r:Cha} (F:Frac b A) (hr:ksChances.star (A k k)=some r):Frac (2 * b + 1) (ledA ksChances A k r):=by
 obtain ⟨d,hd⟩:=F.ex
 have lt:(A k k).1 < 1:=by
  by_cases c:(A k k).1 < 1
  ·exact c
  ·rw [chances_ge _ c] at hr; cases hr
 rw [chances_lt _ lt] at hr
 have er:r.1=(1 - (A k k).1)⁻¹:=by cases hr; rfl
 obtain ⟨k0,k1,hk⟩:=hd k
 obtain ⟨akk,akk1,ekk⟩:=hk k
 have dk0:(0:Rat) < (d k:Rat):=by exact_mod_cast k0
 have akd:akk < d k:=by
  have:(akk:Rat) < (d k:Rat):=by
   rw [← ekk]
   have:=Rat.mul_lt_mul_of_pos_right lt dk0
   rw [Rat.one_mul] at this; exact this
  exact_mod_cast this
 have pw:(2:Nat) ^ (2 * b + 1)=2 ^ b * 2 ^ b * 2:=by rw [Nat.pow_succ,Nat.two_mul,Nat.pow_add]
 have hr2:r.1 * ((d k - akk:Nat):Rat)=(d k:Rat):=by
  rw [er]
  have e1:((d k - akk:Nat):Rat)=(1 - (A k k).1) * (d k:Rat):=by
   have:((d k - akk:Nat):Rat) + (akk:Rat)=(d k:Rat):=by
    rw [← Rat.natCast_add,Nat.sub_add_cancel (Nat.le_of_lt akd)]
   rw [← ekk] at this
   grind
  rw [e1,← Rat.mul_assoc,Rat.inv_mul_cancel _ (by grind),Rat.one_mul]
 refine ⟨fun i=>d i * (d k - akk),fun i=>⟨Nat.mul_pos (hd i).1 (by omega),?_,fun j=>?_⟩⟩
 ·rw [pw]
  have:d i * (d k - akk) < 2 ^ b * 2 ^ b:=Nat.mul_lt_mul'' (hd i).2.1 (by omega)
  show d i * (d k - akk) < _
  omega
 ·obtain ⟨aij,aij1,eij⟩:=(hd i).2.2 j
  obtain ⟨aik,aik1,eik⟩:=(hd i).2.2 k
  obtain ⟨akj,akj1,ekj⟩:=hk j
  refine ⟨aij * (d k - akk) + aik * akj,?_,?_⟩
  ·rw [pw]
   have a1:aij * (d k - akk) < 2 ^ b * 2 ^ b:=Nat.mul_lt_mul'' aij1 (by omega)
   have a2:aik * akj < 2 ^ b * 2 ^ b:=Nat.mul_lt_mul'' aik1 akj1
   omega
  ·show ((A i j).1 + (A i k).1 * r.1 * (A k j).1) * _=_
   rw [Rat.natCast_add,Rat.natCast_mul,Rat.natCast_mul,Rat.natCast_mul,← eij,← eik,← ekj]
   generalize ((d k - akk:Nat):Rat)=x at hr2
   have e2:(A i k).1 * r.1 * (A k j).1 * ((d i:Rat) * x)=(A i k).1 * (d i:Rat) * ((A k j).1 * (r.1 * x)):=by grind
   rw [hr2] at e2
   rw [Rat.add_mul,e2]
   generalize (A i j).1=u
   generalize (d i:Rat)=v
   rw [← Rat.mul_assoc]
def bC:Nat→Nat
 | 0=>200
 | k + 1=>2 * bC k + 1
def bP:Nat→Nat
 | 0=>520
 | k + 1=>3 * bP k + 120
theorem bC_le:∀ {k:Nat},k≤8→bC k≤60000:=by decide
theorem bP_le:∀ {k:Nat},k≤7→bP k≤2000000:=by decide
theorem stage_frac {A0:Mat Cha} (h0:Frac 200 A0):∀ {k:Nat} {A:Mat Cha},stageA ksChances A0 k=some A→Frac (bC k) A
 | 0,A,h=>by cases h; exact h0
 | k + 1,A,h=>by
  unfold stageA at h
  cases e:stageA ksChances A0 k with
  | none=>rw [e] at h; cases h
  | some B =>
   rw [e] at h
   have h:(ksChances.star (B k k)).map (fun r=>ledA ksChances B k r)=some A:=h
   cases e2:ksChances.star (B k k) with
   | none=>rw [e2] at h; cases h
   | some r =>
    rw [e2] at h
    cases h
    exact (stage_frac h0 e).led e2
theorem stage_plain {kd:Kd} {ok:KdOk kd} (hc:kd≠.chances) {A0:Mat (Car kd)} (h0:∀ i j,Sm 520 (enc kd (A0 i j))):∀ {k:Nat} {A:Mat (Car kd)},stageA (ks kd ok) A0 k=some A→∀ i j,Sm (bP k) (enc kd (A i j))
 | 0,A,h=>by cases h; exact h0
 | k + 1,A,h=>by
  unfold stageA at h
  cases e:stageA (ks kd ok) A0 k with
  | none=>rw [e] at h; cases h
  | some B =>
   rw [e] at h
   have h:((ks kd ok).star (B k k)).map (fun r=>ledA (ks kd ok) B k r)=some A:=h
   cases e2:(ks kd ok).star (B k k) with
   | none=>rw [e2] at h; cases h
   | some r =>
    rw [e2] at h
    cases h
    intro i j
    have hB:=stage_plain hc h0 e
    have hr:=sm_star (hB k k) e2
    have hm:=sm_mul (ok:=ok) (sm_mul (ok:=ok) (hB i k) hr) (hB k j)
    exact (sm_add2 (ok:=ok) hc ((hB i j).mono (show bP k≤3 * bP k + 54 by omega)) (hm.mono (by omega))).mono (by show _≤3 * bP k + 120; omega)
def TFits (kd:Kd) (ok:KdOk kd) (es:List (Edge (Car kd))) (n:Nat):Prop:=∀ k,k≤n→∀ A,stageA (ks kd ok) (edgeM (ks kd ok) es) k=some A→∀ i j,Sm (if kd=.chances then 60000 else 2000000) (enc kd (A i j))
theorem TFits.sm {kd:Kd} {ok:KdOk kd} {es:List (Edge (Car kd))} {n:Nat} (F:TFits kd ok es n) {k:Nat} (hk:k≤n) {A:Mat (Car kd)} (h:stageA (ks kd ok) (edgeM (ks kd ok) es) k=some A) (i j:Nat):Sm 2000000 (enc kd (A i j)) :=
 (F k hk A h i j).mono (by split <;> decide)
theorem sub_edge {es:List (Edge (Car .chances))} (p:Nat):shSum (frm (p:Int) (es.map (Edge.road .chances)))=((es.filter fun e=>decide (e.f=p)).map fun e=>e.c.1).sum:=by
 unfold shSum frm
 rw [List.filter_eq_self.mpr (fun w hw=>by
  obtain ⟨r,hr,rfl⟩:=List.mem_map.mp hw
  obtain ⟨e,_,rfl⟩:=List.mem_map.mp (List.mem_filter.mp hr).1
  exact ofR_share e.c.1)]
 rw [List.filter_map,List.map_map,List.map_map]
 have e1:(fun r:Road=>decide (r.f=(p:Int))) ∘ Edge.road .chances=fun e:Edge (Car .chances)=>decide (e.f=p):=by
  funext e
  show decide (((e.f:Nat):Int)=(p:Int))=_
  exact decide_eq_decide.mpr ⟨fun h=>by omega,fun h=>by omega⟩
 rw [e1]
 congr 1
 refine List.map_congr_left fun e _=>?_
 exact toR_ofR e.c.1
theorem sum_cha:∀ (l:List (Edge (Car .chances))) (g:Edge (Car .chances)→Cha),(ksChances.sum (l.map g)).1=(l.map fun e=>(g e).1).sum
 | [],_=>rfl
 | e :: l,g=>by
  show (g e).1 + (ksChances.sum (l.map g)).1=_
  rw [sum_cha l g,List.map_cons,List.sum_cons]
theorem when_le (p:Prop) [Decidable p] (x:Cha):(ksChances.when p x).1≤x.1:=by
 unfold KSR.when
 by_cases c:p
 ·rw [if_pos c]; exact Rat.le_refl
 ·rw [if_neg c]; exact x.2
theorem when_no {p:Prop} [Decidable p] (h:¬ p) (x:Cha):(ksChances.when p x).1=0:=by
 unfold KSR.when
 rw [if_neg h]; rfl
theorem sum_le_filter (p t:Nat):∀ l:List (Edge (Car .chances)),(l.map fun e=>(ksChances.when (e.f=p) (ksChances.when (e.t=t) e.c)).1).sum≤((l.filter fun e=>decide (e.f=p)).map fun e=>e.c.1).sum
 | []=>Rat.le_refl
 | e :: l=>by
  have ih:=sum_le_filter p t l
  have c0:(0:Rat)≤e.c.1:=e.c.2
  rw [List.map_cons,List.sum_cons]
  by_cases h:e.f=p
  ·rw [List.filter_cons_of_pos (by simpa using h),List.map_cons,List.sum_cons]
   have:(ksChances.when (e.f=p) (ksChances.when (e.t=t) e.c)).1≤e.c.1:=Rat.le_trans (when_le _ _) (when_le _ _)
   grind
  ·rw [List.filter_cons_of_neg (by simpa using h)]
   have:(ksChances.when (e.f=p) (ksChances.when (e.t=t) e.c)).1=0:=when_no h _
   grind
theorem frac_edges {es:List (Edge (Car .chances))} {n:Nat} (G:Graph .chances n es):Frac 200 (edgeM ksChances es):=by
 obtain ⟨L,L0,L1,hL⟩:=G.den rfl
 obtain ⟨ps,hov,hps⟩:=overP_of hL
 have p200:(2:Nat) ^ 192≤2 ^ 200:=Nat.pow_le_pow_right (by decide) (by decide)
 refine ⟨fun _=>L,fun i=>⟨L0,by show L < _; omega,fun j=>?_⟩⟩
 obtain ⟨N,n1,n2⟩:=over_steps hov i 1 j
 rw [Nat.pow_one] at n2
 refine ⟨N,?_,n2⟩
 have le1:(edgeM ksChances es i j).1≤1:=by
  have e2:(edgeM ksChances es i j).1=(es.map fun e=>(ksChances.when (e.f=i) (ksChances.when (e.t=j) e.c)).1).sum:=(congrArg Subtype.val (edgeM_eq ksChances es i j)).trans (sum_cha es _)
  have a1:=sum_le_filter i j es
  have a2:=G.sub rfl i
  rw [sub_edge] at a2
  exact Eq.subst (motive:=fun z=>z≤1) e2.symm (Rat.le_trans a1 a2)
 have:(N:Rat)≤(L:Rat):=by
  rw [← n2]
  have L0':(0:Rat)≤(L:Rat):=by exact_mod_cast Nat.zero_le L
  have:=Rat.mul_le_mul_of_nonneg_right le1 L0'
  rw [Rat.one_mul] at this; exact this
 have:N≤L:=by exact_mod_cast this
 omega
theorem Graph.tfits {kd:Kd} {ok:KdOk kd} {n:Nat} {es:List (Edge (Car kd))} (G:Graph kd n es) (hl:es.length≤64) (h7:n≤7):TFits kd ok es n:=by
 intro k hk A h i j
 by_cases hc:kd=.chances
 ·subst hc
  rw [if_pos rfl]
  exact ((stage_frac (frac_edges G) h).sm i j).mono (bC_le (by omega))
 ·rw [if_neg hc]
  have h0:∀ i j,Sm 520 (enc kd (edgeM (ks kd ok) es i j)):=fun i j=>((fits_plain (ok:=ok) hc G.sm hl i 1).at_ 1 (Nat.le_refl _) j).mono (by decide)
  exact (stage_plain hc h0 h i j).mono (bP_le (by omega))
end Ws
namespace Ws
open PySem
section
variable {S : Type} (M : KSR S)
theorem le_refl (a:S):M.le a a:=⟨M.zero,M.add_zero a⟩
theorem le_trans {a b c:S} (h:M.le a b) (h':M.le b c):M.le a c:=by
 obtain ⟨d,rfl⟩:=h
 obtain ⟨e,rfl⟩:=h'
 exact ⟨M.add d e,(M.add_assoc _ _ _).symm⟩
theorem le_anti {a b:S} (h:M.le a b) (h':M.le b a):a=b:=by
 obtain ⟨d,e⟩:=h
 obtain ⟨d',e'⟩:=h'
 exact M.anti a b d d' e e'
theorem le_of_eq {a b:S} (h:a=b):M.le a b:=h ▸ le_refl M a
theorem zero_le (a:S):M.le M.zero a:=⟨a,M.zero_add a⟩
theorem le_add (a b:S):M.le a (M.add a b):=⟨b,rfl⟩
theorem le_add' (a b:S):M.le b (M.add a b):=⟨a,M.add_comm b a⟩
theorem add_le {a b c d:S} (h:M.le a b) (h':M.le c d):M.le (M.add a c) (M.add b d):=by
 obtain ⟨x,rfl⟩:=h
 obtain ⟨y,rfl⟩:=h'
 exact ⟨M.add x y,M.add4 a c x y⟩
theorem mul_le {a b c d:S} (h:M.le a b) (h':M.le c d):M.le (M.mul a c) (M.mul b d):=by
 obtain ⟨x,rfl⟩:=h
 obtain ⟨y,rfl⟩:=h'
 refine ⟨M.add (M.mul a y) (M.mul x (M.add c y)),?_⟩
 rw [M.add_mul,M.mul_add a,M.add_assoc]
end
end Ws
namespace Ws
open PySem
section
variable {S : Type} (M : KSR S)
end
end Ws
namespace Ws
open PySem
end Ws
namespace Ws
open PySem
theorem pigeon:∀ (n:Nat) (f:Nat→Nat),(∀ i,i≤n→f i < n)→∃ i j,i < j∧j≤n∧f i=f j
 | 0,f,h=>absurd (h 0 (Nat.le_refl 0)) (Nat.not_lt_zero _)
 | n + 1,f,h=>by
  by_cases c:∃ i,i≤n∧f i=f (n + 1)
  ·obtain ⟨i,hi,e⟩:=c
   exact ⟨i,n + 1,by omega,Nat.le_refl _,e⟩
  ·have c:∀ i,i≤n→f i≠f (n + 1):=fun i hi e=>c ⟨i,hi,e⟩
   obtain ⟨i,j,hij,hj,e⟩:=pigeon n (fun i=>if f i=n then f (n + 1) else f i) (fun i hi=>by
    show (if _ then _ else _) < _
    have a:=h i (by omega)
    have b:=h (n + 1) (Nat.le_refl _)
    have d:=c i hi
    split <;> omega)
   refine ⟨i,j,hij,by omega,?_⟩
   have e:(if f i=n then f (n + 1) else f i)=(if f j=n then f (n + 1) else f j):=e
   have a:=c i (by omega)
   have b:=c j hj
   split at e <;> split at e <;> omega
def goes {S:Type} (p:Nat):List (Edge S)→Option Nat
 | []=>some p
 | e :: l=>if e.f=p then goes e.t l else none
theorem goes_app {S:Type}:∀ {l r:List (Edge S)} {p:Nat},goes p (l ++ r)=(goes p l).bind fun v=>goes v r
 | [],r,p=>rfl
 | e :: l,r,p=>by
  show (if e.f=p then goes e.t (l ++ r) else none)=(if e.f=p then goes e.t l else none).bind _
  split
  ·exact goes_app
  ·rfl
theorem goes_lt {S:Type} {n:Nat}:∀ {l:List (Edge S)} {p q:Nat},p < n→(∀ e∈l,e.f < n∧e.t < n)→goes p l=some q→q < n
 | [],p,q,hp,_,h=>by cases h; exact hp
 | e :: l,p,q,hp,he,h=>by
  unfold goes at h
  split at h
  ·exact goes_lt (he e List.mem_cons_self).2 (fun x hx=>he x (List.mem_cons_of_mem _ hx)) h
  ·cases h
theorem goes_take {S:Type} {l:List (Edge S)} {p q:Nat} (h:goes p l=some q) (i:Nat):∃ v,goes p (l.take i)=some v∧goes v (l.drop i)=some q:=by
 have e:=h
 rw [← List.take_append_drop i l,goes_app] at e
 cases c:goes p (l.take i) with
 | none=>rw [c] at e; cases e
 | some v=>rw [c] at e; exact ⟨v,rfl,e⟩
theorem way_cut {S:Type} {n:Nat} {l:List (Edge S)} {p q:Nat} (hp:p < n) (he:∀ e∈l,e.f < n∧e.t < n) (h:goes p l=some q) (hl:n≤l.length) :
  ∃ l1 l2 l3 v,l=l1 ++ (l2 ++ l3)∧l2≠[]∧goes p l1=some v∧goes v l2=some v∧goes v l3=some q:=by
 obtain ⟨i,j,hij,hj,e⟩:=pigeon n (fun i=>(goes p (l.take i)).getD 0) (fun i _=>by
  obtain ⟨v,e1,_⟩:=goes_take h i
  show (goes p (l.take i)).getD 0 < n
  rw [e1]
  exact goes_lt hp (fun x hx=>he x (List.mem_of_mem_take hx)) e1)
 obtain ⟨v,a1,a2⟩:=goes_take h i
 obtain ⟨v',b1,b2⟩:=goes_take h j
 have e:(goes p (l.take i)).getD 0=(goes p (l.take j)).getD 0:=e
 rw [a1,b1] at e
 obtain rfl:v=v':=e
 obtain ⟨u,c1,c2⟩:=goes_take a2 (j - i)
 have ej:l.take j=l.take i ++ (l.drop i).take (j - i):=by
  have:=List.take_add (l:=l) (i:=i) (j:=j - i)
  rw [show i + (j - i)=j by omega] at this
  exact this
 rw [ej,goes_app,a1] at b1
 have b1:goes v ((l.drop i).take (j - i))=some v:=b1
 rw [c1] at b1
 obtain rfl:u=v:=Option.some.inj b1
 refine ⟨l.take i,(l.drop i).take (j - i),(l.drop i).drop (j - i),u,?_,?_,a1,c1,c2⟩
 ·rw [List.take_append_drop,List.take_append_drop]
 ·intro z
  have:=congrArg List.length z
  rw [List.length_take,List.length_drop,List.length_nil] at this
  omega
section
variable {S : Type} (M : KSR S)
def worthL (l:List (Edge S)):S:=l.foldr (fun e x=>M.mul e.c x) M.one
theorem worthL_app:∀ l r:List (Edge S),worthL M (l ++ r)=M.mul (worthL M l) (worthL M r)
 | [],r=>(M.one_mul _).symm
 | e :: l,r=>by
  show M.mul e.c (worthL M (l ++ r))=M.mul (M.mul e.c (worthL M l)) (worthL M r)
  rw [worthL_app l r,M.mul_assoc]
theorem mem_le_sum {α:Type} (f:α→S):∀ {l:List α} {x:α},x∈l→M.le (f x) (M.sum (l.map f))
 | [],x,h=>nomatch h
 | y :: l,x,h=>by
  show M.le (f x) (M.add (f y) (M.sum (l.map f)))
  rcases List.mem_cons.mp h with rfl | h
  ·exact le_add M _ _
  ·exact le_trans M (mem_le_sum f h) (le_add' M _ _)
theorem way_le {es:List (Edge S)} {p:Nat}:∀ (k:Nat) {l:List (Edge S)} {q:Nat},l.length=k→(∀ e∈l,e∈es)→goes p l=some q→M.le (worthL M l) (stepsV M es p k q)
 | 0,l,q,hl,_,h=>by
  obtain rfl:=List.length_eq_zero_iff.mp hl
  cases h
  refine le_of_eq M ?_
  show M.one=unitV M p p
  unfold unitV
  exact (if_pos rfl).symm
 | k + 1,l,q,hl,he,h=>by
  obtain ⟨r,e,rfl⟩:∃ r e,l=r ++ [e]:=⟨l.dropLast,l.getLast (by intro z; rw [z] at hl; cases hl),(List.dropLast_concat_getLast _).symm⟩
  rw [List.length_append,List.length_singleton] at hl
  rw [goes_app] at h
  cases c:goes p r with
  | none=>rw [c] at h; cases h
  | some v =>
   rw [c] at h
   have h:(if e.f=v then some e.t else none)=some q:=h
   split at h
   ·rename_i ef
    cases h
    have ih:=way_le k (l:=r) (by omega) (fun x hx=>he x (List.mem_append_left _ hx)) c
    have me:e∈es:=he e (List.mem_append_right _ List.mem_cons_self)
    rw [worthL_app]
    have e1:worthL M [e]=e.c:=M.mul_one _
    rw [e1]
    show M.le _ (stepV M es (stepsV M es p k) e.t)
    have z:=mem_le_sum M (fun e':Edge S=>M.when (e'.t=e.t) (M.mul (stepsV M es p k e'.f) e'.c)) me
    refine le_trans M ?_ z
    rw [show M.when (e.t=e.t) (M.mul (stepsV M es p k e.f) e.c)=M.mul (stepsV M es p k e.f) e.c from if_pos rfl,ef]
    exact mul_le M ih (le_refl M _)
   ·cases h
def Idem:Prop:=∀ x,M.add x x=x
theorem add_le_of (hi:Idem M) {a b x:S} (h:M.le a x) (h':M.le b x):M.le (M.add a b) x:=by
 have z:=add_le M h h'
 rwa [hi x] at z
theorem sum_le_of (hi:Idem M) {α:Type} {f:α→S} {x:S}:∀ {l:List α},(∀ y∈l,M.le (f y) x)→M.le (M.sum (l.map f)) x
 | [],_=>zero_le M x
 | y :: l,h=>add_le_of M hi (h y List.mem_cons_self) (sum_le_of hi fun z hz=>h z (List.mem_cons_of_mem _ hz))
theorem steps_le (hi:Idem M) {es:List (Edge S)} {p:Nat} {x:S}:∀ (k:Nat) (q:Nat) (y:S),(∀ l:List (Edge S),l.length=k→(∀ e∈l,e∈es)→goes p l=some q→M.le (M.mul (worthL M l) y) x)→M.le (M.mul (stepsV M es p k q) y) x
 | 0,q,y,h=>by
  show M.le (M.mul (M.when (q=p) M.one) y) x
  unfold KSR.when
  split
  ·rename_i c
   exact h [] rfl (fun e he=>nomatch he) (congrArg some c.symm)
  ·rw [M.zero_mul]; exact zero_le M x
 | k + 1,q,y,h=>by
  show M.le (M.mul (M.sum (es.map fun e=>M.when (e.t=q) (M.mul (stepsV M es p k e.f) e.c))) y) x
  rw [M.sum_mul,List.map_map]
  refine sum_le_of M hi fun e he=>?_
  show M.le (M.mul (M.when (e.t=q) (M.mul (stepsV M es p k e.f) e.c)) y) x
  unfold KSR.when
  split
  ·rename_i c
   rw [M.mul_assoc]
   refine steps_le hi k e.f (M.mul e.c y) fun l hl hm hg=>?_
   have z:=h (l ++ [e]) (by rw [List.length_append,hl]; rfl) (fun e' he'=>by
    rcases List.mem_append.mp he' with h1 | h1
    ·exact hm e' h1
    ·rw [List.mem_singleton.mp h1]; exact he) (by rw [goes_app,hg]; show (if e.f=e.f then some e.t else none)=some q; rw [if_pos rfl,c])
   rw [worthL_app,show worthL M [e]=e.c from M.mul_one _,M.mul_assoc] at z
   exact z
  ·rw [M.zero_mul]; exact zero_le M x
def Tops:Prop:=∀ x,M.add M.one x=M.one
theorem Tops.idem {M:KSR S} (h:Tops M):Idem M:=fun x=>by
 have:=congrArg (M.mul x) (h M.one)
 rwa [M.mul_add,M.mul_one] at this
def upTo (es:List (Edge S)) (p k q:Nat):S:=M.to (k + 1) fun s=>stepsV M es p s q
theorem way_short (ht:Tops M) {n:Nat} {es:List (Edge S)} (hes:∀ e∈es,e.f < n∧e.t < n) {p:Nat} (hp:p < n):∀ (k:Nat) {l:List (Edge S)} {q:Nat},l.length≤k→(∀ e∈l,e∈es)→goes p l=some q→M.le (worthL M l) (upTo M es p (n - 1) q)
 | k,l,q,hl,he,h=>by
  by_cases c:l.length < n
  ·refine le_trans M (way_le M l.length rfl he h) ?_
   exact mem_le_sum M (fun s=>stepsV M es p s q) (List.mem_range.mpr (by omega))
  ·obtain ⟨l1,l2,l3,v,rfl,ne,g1,g2,g3⟩:=way_cut hp (fun e m=>hes e (he e m)) h (by omega)
   have n2:0 < l2.length:=List.length_pos_iff.mpr ne
   rw [List.length_append,List.length_append] at hl
   match k,hl with
   | 0,hl=>omega
   | k + 1,hl =>
    have z:=way_short ht hes hp k (l:=l1 ++ l3) (q:=q) (by rw [List.length_append]; omega) (fun e m=>he e (by
     rcases List.mem_append.mp m with m | m
     ·exact List.mem_append_left _ m
     ·exact List.mem_append_right _ (List.mem_append_right _ m))) (by rw [goes_app,g1]; exact g3)
    refine le_trans M ?_ z
    rw [worthL_app,worthL_app,worthL_app]
    refine mul_le M (le_refl M _) ?_
    have o:M.le (worthL M l2) M.one:=⟨M.one,by rw [M.add_comm]; exact ht _⟩
    have:=mul_le M o (le_refl M (worthL M l3))
    rwa [M.one_mul] at this
end
end Ws
namespace Ws
open PySem
section
variable {S : Type} (M : KSR S)
end
theorem tops_kd {kd:Kd} {ok:KdOk kd} (h:kno kd=0∨kno kd=1∨kno kd=3∨kno kd=5):Tops (ks kd ok):=by
 intro x
 cases kd with
 | fewest =>
  show oMin (some 0) x=some 0
  cases x <;> simp [oMin]
 | widest =>
  refine Subtype.ext ?_
  show max 1000000000 x.1=1000000000
  have:=x.2
  omega
 | likeliest =>
  refine Subtype.ext ?_
  show rmax 1 x.1=1
  have:=x.2
  unfold rmax
  grind
 | musts =>
  show oAnd (some 0) x=some 0
  cases x <;> simp [oAnd]
 | counted=>rcases h with h | h | h | h <;> cases h
 | chances=>rcases h with h | h | h | h <;> cases h
 | rests m=>rcases h with h | h | h | h <;> cases h
end Ws
namespace Ws
open PySem
end Ws
namespace Ws
open PySem
section
variable {S : Type} (M : KSR S)
end
end Ws
namespace Ws
open PySem
section
variable {kd : Kd} (ok : KdOk kd)
end
section
end
end Ws
namespace Ws
open PySem
structure GrT (kd:Kd) (ok:KdOk kd) (n:Nat) (es:List (Edge (Car kd))):Prop where
 nb:n≤8
 ends:∀ e∈es,e.f < n∧e.t < n
 sm:∀ e∈es,Sm 2000 (enc kd e.c)
 sum:∀ j i t,Sm 52000 (enc kd (stepV (ks kd ok) (es.take j) (unitV (ks kd ok) i) t))
section
variable {kd : Kd} {ok : KdOk kd} {m p : Nat} {es : List (Edge (Car kd))} {r : Car kd}
end
end Ws
namespace Ws
open PySem
section
variable {S : Type} (M : KSR S)
end
end Ws
namespace Ws
open PySem
def rsum (n:Nat) (f:Nat→Rat):Rat:=((List.range n).map f).sum
theorem rsum_zero (f:Nat→Rat):rsum 0 f=0:=rfl
theorem rsum_succ (n:Nat) (f:Nat→Rat):rsum (n + 1) f=rsum n f + f n:=by
 unfold rsum
 rw [List.range_succ,List.map_append,List.sum_append]
 show _ + (f n + 0)=_
 grind
theorem rsum_congr {n:Nat} {f g:Nat→Rat} (h:∀ i,i < n→f i=g i):rsum n f=rsum n g:=by
 unfold rsum
 rw [List.map_congr_left fun i hi=>h i (List.mem_range.mp hi)]
theorem rsum_add (f g:Nat→Rat):∀ n,rsum n (fun i=>f i + g i)=rsum n f + rsum n g
 | 0=>by rw [rsum_zero,rsum_zero,rsum_zero]; grind
 | n + 1=>by rw [rsum_succ,rsum_succ,rsum_succ,rsum_add f g n]; grind
theorem rsum_mul (c:Rat) (f:Nat→Rat):∀ n,rsum n (fun i=>c * f i)=c * rsum n f
 | 0=>by rw [rsum_zero,rsum_zero]; grind
 | n + 1=>by rw [rsum_succ,rsum_succ,rsum_mul c f n]; grind
theorem rsum_le {f g:Nat→Rat}:∀ {n:Nat},(∀ i,i < n→f i≤g i)→rsum n f≤rsum n g
 | 0,_=>Rat.le_refl
 | n + 1,h=>by
  rw [rsum_succ,rsum_succ]
  have a:=rsum_le (n:=n) fun i hi=>h i (by omega)
  have b:=h n (by omega)
  grind
theorem rsum_at (f:Nat→Rat) (k:Nat):∀ n,rsum n (fun i=>if i=k then f i else 0)=if k < n then f k else 0
 | 0=>rfl
 | n + 1=>by
  rw [rsum_succ,rsum_at f k n]
  by_cases c:k < n
  ·rw [if_pos c,if_neg (by omega),if_pos (by omega)]; grind
  ·rw [if_neg c]
   by_cases d:n=k
   ·subst d; rw [if_pos rfl,if_pos (by omega)]; grind
   ·rw [if_neg d,if_neg (by omega)]; grind
def gsum (n:Nat) (C:Nat→Bool) (f:Nat→Rat):Rat:=rsum n fun y=>if C y=true then f y else 0
theorem gsum_add {n:Nat} {C:Nat→Bool} {f g:Nat→Rat}:gsum n C (fun i=>f i + g i)=gsum n C f + gsum n C g:=by
 unfold gsum
 rw [← rsum_add]
 refine rsum_congr fun i _=>?_
 by_cases c:C i=true
 ·rw [if_pos c,if_pos c,if_pos c]
 ·rw [if_neg c,if_neg c,if_neg c]; grind
theorem gsum_mul {n:Nat} {C:Nat→Bool} (c:Rat) {f:Nat→Rat}:gsum n C (fun i=>c * f i)=c * gsum n C f:=by
 unfold gsum
 rw [← rsum_mul]
 refine rsum_congr fun i _=>?_
 by_cases d:C i=true
 ·rw [if_pos d,if_pos d]
 ·rw [if_neg d,if_neg d]; grind
theorem gsum_more {n k:Nat} {C D:Nat→Bool} {f:Nat→Rat} (hk:k < n) (h1:¬ C k=true) (hD:∀ i,D i=(C i || decide (i=k))):gsum n D f=gsum n C f + f k:=by
 have e:gsum n D f=rsum n fun i=>(if C i=true then f i else 0) + (if i=k then f i else 0):=by
  refine rsum_congr fun i _=>?_
  rw [hD]
  by_cases c:i=k
  ·subst c
   rw [if_pos (by simp),if_neg h1,if_pos rfl]; grind
  ·rw [if_neg c]
   by_cases d:C i=true
   ·rw [if_pos (by simp [d]),if_pos d]; grind
   ·rw [if_neg (by simp [c,d]),if_neg d]; grind
 rw [e,rsum_add,rsum_at,if_pos hk]; rfl
theorem gsum_mono {n:Nat} {C D:Nat→Bool} {f:Nat→Rat} (h:∀ i,i < n→C i=true→D i=true) (h0:∀ i,i < n→0≤f i):gsum n C f≤gsum n D f:=by
 refine rsum_le fun i hi=>?_
 by_cases c:C i=true
 ·rw [if_pos c,if_pos (h i hi c)]; exact Rat.le_refl
 ·rw [if_neg c]
  split
  ·exact h0 i hi
  ·exact Rat.le_refl
structure Closed (n k:Nat) (A:Mat Cha) (C:Nat→Bool):Prop where
 sub:∀ x,C x=true→k≤x∧x < n
 ex:∃ x,C x=true
 full:∀ x,C x=true→1≤gsum n C fun y=>(A x y).1
def Sub (n k:Nat) (A:Mat Cha):Prop:=∀ x,k≤x→x < n→gsum n (fun y=>decide (k≤y)) (fun y=>(A x y).1)≤1
theorem led_gsum {n k:Nat} {A:Mat Cha} {r:Cha} (C:Nat→Bool) (x:Nat):gsum n C (fun y=>(ledA ksChances A k r x y).1)=gsum n C (fun y=>(A x y).1) + (A x k).1 * r.1 * gsum n C (fun y=>(A k y).1):=by
 rw [← gsum_mul,← gsum_add]; rfl
theorem cha_star {a r:Cha} (h:ksChances.star a=some r):a.1 < 1∧r.1 * (1 - a.1)=1:=by
 have lt:a.1 < 1:=by
  by_cases c:a.1 < 1
  ·exact c
  ·rw [chances_ge _ c] at h; cases h
 rw [chances_lt _ lt] at h
 have e:r.1=(1 - a.1)⁻¹:=by cases h; rfl
 exact ⟨lt,by rw [e]; exact Rat.inv_mul_cancel _ (by grind)⟩
theorem sub_part {n k:Nat} {A:Mat Cha} (hs:Sub n k A) {C:Nat→Bool} (hC:∀ y,C y=true→k + 1≤y∧y < n) (hk:k < n) {x:Nat} (h1:k≤x) (h2:x < n):gsum n C (fun y=>(A x y).1) + (A x k).1≤1:=by
 have e:=gsum_more (n:=n) (k:=k) (C:=C) (D:=fun y=>C y || decide (y=k)) (f:=fun y=>(A x y).1) hk (fun z=>by have:=(hC k z).1; omega) (fun _=>rfl)
 have m:gsum n (fun y=>C y || decide (y=k)) (fun y=>(A x y).1)≤gsum n (fun y=>decide (k≤y)) (fun y=>(A x y).1):=gsum_mono (fun i _ h=>by
  rcases Bool.or_eq_true_iff.mp h with h | h
  ·exact decide_eq_true (by have:=(hC i h).1; omega)
  ·exact decide_eq_true (by have:=of_decide_eq_true h; omega)) (fun i _=>(A x i).2)
 have:=hs x h1 h2
 grind
theorem Closed.up {n k:Nat} {A:Mat Cha} {r:Cha} {C:Nat→Bool} (hs:Sub n k A) (hk:k < n) (hr:ksChances.star (A k k)=some r) (h:Closed n (k + 1) (ledA ksChances A k r) C):∃ D,Closed n k A D:=by
 obtain ⟨lt,er⟩:=cha_star hr
 have hC:=h.sub
 have full:∀ x,C x=true→1≤gsum n C (fun y=>(A x y).1) + (A x k).1 * r.1 * gsum n C (fun y=>(A k y).1):=fun x hx=>by
  have:=h.full x hx
  rw [led_gsum] at this; exact this
 have a2:=sub_part hs hC hk (Nat.le_refl k) hk
 have r0:=r.2
 by_cases all:∀ x,C x=true→(A x k).1=0
 ·refine ⟨C,fun x hx=>⟨by have:=(hC x hx).1; omega,(hC x hx).2⟩,h.ex,fun x hx=>?_⟩
  have:=full x hx
  rw [all x hx] at this
  grind
 ·obtain ⟨x0,hx0⟩:=Classical.not_forall.mp all
  obtain ⟨c0,nz⟩:=Classical.not_imp.mp hx0
  have nC:¬ C k=true:=fun z=>by have:=(hC k z).1; omega
  have more:∀ x,gsum n (fun y=>C y || decide (y=k)) (fun y=>(A x y).1)=gsum n C (fun y=>(A x y).1) + (A x k).1:=fun x=>gsum_more (f:=fun y=>(A x y).1) hk nC (fun _=>rfl)
  have s1:r.1 * gsum n C (fun y=>(A k y).1)≤1:=by
   have:=Rat.mul_le_mul_of_nonneg_left (show gsum n C (fun y=>(A k y).1)≤1 - (A k k).1 by grind) r0
   rw [er] at this; exact this
  have s2:1≤r.1 * gsum n C (fun y=>(A k y).1):=by
   have f0:=full x0 c0
   have p0:=sub_part hs hC hk (show k≤x0 by have:=(hC x0 c0).1; omega) (hC x0 c0).2
   have g0:=(A x0 k).2
   generalize gsum n C (fun y=>(A x0 y).1)=sx at *
   generalize gsum n C (fun y=>(A k y).1)=sk at *
   generalize (A x0 k).1=a at *
   have e:a * r.1 * sk=a * (r.1 * sk):=Rat.mul_assoc ..
   rw [e] at f0
   generalize r.1 * sk=u at *
   have pos:0 < a:=by grind
   have:a * 1≤a * u:=by grind
   by_cases c:1≤u
   ·exact c
   ·have:=Rat.mul_lt_mul_of_pos_left (show u < 1 by grind) pos
    grind
  refine ⟨fun y=>C y || decide (y=k),fun x hx=>?_,⟨k,by simp⟩,fun x hx=>?_⟩
  ·rcases Bool.or_eq_true_iff.mp hx with hx | hx
   ·exact ⟨by have:=(hC x hx).1; omega,(hC x hx).2⟩
   ·have:=of_decide_eq_true hx; omega
  ·rw [more]
   rcases Bool.or_eq_true_iff.mp hx with hx | hx
   ·have f0:=full x hx
    have g0:=(A x k).2
    generalize gsum n C (fun y=>(A x y).1)=sx at *
    generalize gsum n C (fun y=>(A k y).1)=sk at *
    generalize (A x k).1=a at *
    have e:a * r.1 * sk=a * (r.1 * sk):=Rat.mul_assoc ..
    rw [e] at f0
    have:=Rat.mul_le_mul_of_nonneg_left s1 g0
    grind
   ·obtain rfl:x=k:=of_decide_eq_true hx
    have s3:gsum n C (fun y=>(A x y).1)=(1 - (A x x).1) * (r.1 * gsum n C (fun y=>(A x y).1)):=by
     rw [← Rat.mul_assoc,Rat.mul_comm (1 - (A x x).1),er]; grind
    have:=Rat.mul_le_mul_of_nonneg_left s2 (show 0≤1 - (A x x).1 by grind)
    grind
end Ws
namespace Ws
open PySem
def rowS (es:List (Edge Cha)) (x:Nat):Rat:=((es.filter fun e=>decide (e.f=x)).map fun e=>e.c.1).sum
structure Fil (n p:Nat) (D:Nat→Nat) (es:List (Edge Cha)):Prop where
 ends:∀ e∈es,e.f < n∧e.t < n
 pos:∀ x,0 < D x
 lo:∀ x,p≤x→D x < 2 ^ 24
 hi:∀ x,D x < 2 ^ 26
 int:∀ e∈es,∃ k:Nat,e.c.1 * (D e.f:Rat)=(k:Rat)
 row:∀ x,rowS es x≤1
theorem Fil.skip {n p:Nat} {D:Nat→Nat} {es:List (Edge Cha)} (F:Fil n p D es):Fil n (p + 1) D es:=⟨F.ends,F.pos,fun x hx=>F.lo x (by omega),F.hi,F.int,F.row⟩
end Ws
namespace Ws
open PySem
theorem cMul0 {a b:Option Nat}:oMul a b=some 0 ↔ a=some 0∨b=some 0:=by
 rcases a with _ | _ | a <;> rcases b with _ | _ | b <;> simp [oMul]
abbrev CE:=Edge (Option Nat)
def Live (es l:List CE):Prop:=∀ e∈l,e∈es∧e.c≠some 0
theorem Live.worth {es:List CE}:∀ {l:List CE},Live es l→worthL ksCounted l≠some 0
 | [],_=>fun z=>by cases z
 | e :: l,h=>fun z=>by
  rcases cMul0.mp (show oMul e.c (worthL ksCounted l)=some 0 from z) with z | z
  ·exact (h e List.mem_cons_self).2 z
  ·exact Live.worth (fun x hx=>h x (List.mem_cons_of_mem _ hx)) z
section
variable {es : List CE} {n : Nat} {A : Mat (Option Nat)}
end
end Ws
namespace Ws
open PySem
section
variable {S : Type} (M : KSR S)
def Picks:Prop:=∀ x y,M.add x y=x∨M.add x y=y
theorem le_total (hp:Picks M) (a b:S):M.le a b∨M.le b a:=by
 rcases hp a b with h | h
 ·right; exact ⟨a,by rw [M.add_comm]; exact h⟩
 ·left; exact ⟨b,h⟩
theorem mul_le_left (ht:Tops M) (x y:S):M.le (M.mul x y) x:=⟨x,by
 have:M.add (M.mul x y) (M.mul x M.one)=x:=by
  rw [← M.mul_add,M.add_comm,ht,M.mul_one]
 rw [M.mul_one] at this; exact this⟩
theorem le_top1 (ht:Tops M) (x:S):M.le x M.one:=⟨M.one,by rw [M.add_comm]; exact ht x⟩
theorem le_zero {x:S} (h:M.le x M.zero):x=M.zero:=le_anti M h (zero_le M x)
inductive Way (es:List (Edge S)) (s:Nat):List Nat→Nat→S→List Nat→Prop
 | nil:Way es s [] s M.one [s]
 | snoc {ks:List Nat} {u:Nat} {x:S} {st:List Nat} {k:Nat} {e:Edge S}:Way es s ks u x st→es[k]?=some e→e.f=u→e.t ∉ st→Way es s (ks ++ [k]) e.t (M.mul x e.c) (st ++ [e.t])
theorem worthL_snoc (l:List (Edge S)) (e:Edge S):worthL M (l ++ [e])=M.mul (worthL M l) e.c:=by
 rw [worthL_app]
 show M.mul _ (M.mul e.c M.one)=_
 rw [M.mul_one]
theorem Way.goes {es:List (Edge S)} {s:Nat} {ks:List Nat} {u:Nat} {x:S} {st:List Nat} (h:Way M es s ks u x st):∃ l,(∀ e∈l,e∈es)∧Ws.goes s l=some u∧worthL M l=x:=by
 induction h with
 | nil=>exact ⟨[],fun _ h=>(nomatch h),rfl,rfl⟩
 | snoc hw he hf hn ih =>
  rename_i ks u x st k e
  obtain ⟨l,a,b,c⟩:=ih
  refine ⟨l ++ [e],fun y hy=>?_,?_,?_⟩
  ·rcases List.mem_append.mp hy with hy | hy
   ·exact a y hy
   ·rw [List.mem_singleton.mp hy]; exact List.mem_of_getElem? he
  ·rw [goes_app,b]
   show Ws.goes u [e]=some e.t
   unfold Ws.goes
   rw [if_pos hf]; rfl
  ·rw [worthL_snoc,c]
theorem Way.mem {es:List (Edge S)} {s:Nat} {ks:List Nat} {u:Nat} {x:S} {st:List Nat} (h:Way M es s ks u x st):u∈st:=by
 cases h with
 | nil=>exact List.mem_singleton.mpr rfl
 | snoc=>exact List.mem_append_right _ (List.mem_singleton.mpr rfl)
def best (es:List (Edge S)) (s n v:Nat):S:=upTo M es s (n - 1) v
theorem Way.le_best (ht:Tops M) {es:List (Edge S)} {s n:Nat} (hes:∀ e∈es,e.f < n∧e.t < n) (hs:s < n) {ks:List Nat} {u:Nat} {x:S} {st:List Nat} (h:Way M es s ks u x st):M.le x (best M es s n u):=by
 obtain ⟨l,a,b,c⟩:=h.goes
 rw [← c]
 exact way_short M ht hes hs l.length (Nat.le_refl _) a b
theorem best_le (hi:Idem M) {es:List (Edge S)} {s n v:Nat} {x:S} (h:∀ l:List (Edge S),(∀ e∈l,e∈es)→Ws.goes s l=some v→M.le (worthL M l) x):M.le (best M es s n v) x:=by
 refine sum_le_of M hi fun k _=>?_
 have:=steps_le M hi (es:=es) (p:=s) (x:=x) k v M.one (fun l _ he hg=>by rw [M.mul_one]; exact h l he hg)
 rw [M.mul_one] at this; exact this
abbrev RE (S:Type):=Nat × S × List Nat
structure DInv (es:List (Edge S)) (s n:Nat) (Fr:Edge S→Prop) (SL:List (Nat × List Nat)) (RL:List (RE S)):Prop where
 rnd:(RL.map (·.1)).Nodup
 rS:∀ r∈RL,r.1 ∉ SL.map (·.1)
 rlt:∀ r∈RL,r.1 < n
 rne:∀ r∈RL,r.2.1≠M.zero
 rway:∀ r∈RL,∃ st,Way M es s r.2.2 r.1 r.2.1 st∧∀ y∈st,y=r.1∨y∈SL.map (·.1)
 snd:(SL.map (·.1)).Nodup
 slt:∀ p∈SL,p.1 < n
 sway:∀ p∈SL,(∃ st,Way M es s p.2 p.1 (best M es s n p.1) st∧∀ y∈st,y∈SL.map (·.1))∧best M es s n p.1≠M.zero
 front:∀ e∈es,Fr e→e.f∈SL.map (·.1)→e.t ∉ SL.map (·.1)→M.mul (best M es s n e.f) e.c≠M.zero→∃ r∈RL,r.1=e.t∧M.le (M.mul (best M es s n e.f) e.c) r.2.1
 start:s∈SL.map (·.1)∨(SL=[]∧RL=[(s,M.one,[])])
theorem exit_edge {es:List (Edge S)} (Q:Nat→Prop):∀ {l:List (Edge S)} {p q:Nat},(∀ e∈l,e∈es)→Q p→¬ Q q→Ws.goes p l=some q→∃ l1 e l2,l=l1 ++ e :: l2∧Ws.goes p l1=some e.f∧Q e.f∧¬ Q e.t
 | [],p,q,_,hp,hq,g=>by cases g; exact absurd hp hq
 | e :: l,p,q,he,hp,hq,g=>by
  unfold Ws.goes at g
  split at g
  ·rename_i c
   by_cases d:Q e.t
   ·obtain ⟨l1,e',l2,a1,a2,a3,a4⟩:=exit_edge Q (fun x hx=>he x (List.mem_cons_of_mem _ hx)) d hq g
    refine ⟨e :: l1,e',l2,by rw [a1]; rfl,?_,a3,a4⟩
    rw [Ws.goes.eq_def]
    dsimp only
    rw [if_pos c]; exact a2
   ·exact ⟨[],e,l,rfl,by rw [c]; rfl,by rw [c]; exact hp,d⟩
  ·cases g
section
variable {M} {es : List (Edge S)} {s n : Nat} {SL : List (Nat × List Nat)} {RL : List (RE S)} (hes : ∀ e ∈ es, e.f < n ∧ e.t < n) (hs : s < n) (ht : Tops M)
include hes hs ht
theorem DInv.walk (I:DInv M es s n (fun _=>True) SL RL) {x:S} (hx:∀ r∈RL,M.le r.2.1 x) {v:Nat} (hv:v ∉ SL.map (·.1)) {l:List (Edge S)} (he:∀ e∈l,e∈es) (g:Ws.goes s l=some v):M.le (worthL M l) x:=by
 rcases I.start with h | ⟨_,h⟩
 ·obtain ⟨l1,e,l2,rfl,g1,e1,e2⟩:=exit_edge (es:=es) (fun y=>y∈SL.map (·.1)) he h hv g
  have em:e∈es:=he e (List.mem_append_right _ List.mem_cons_self)
  have w1:M.le (worthL M l1) (best M es s n e.f):=way_short M ht hes hs l1.length (Nat.le_refl _) (fun y hy=>he y (List.mem_append_left _ hy)) g1
  have w2:M.le (worthL M (l1 ++ e :: l2)) (M.mul (best M es s n e.f) e.c):=by
   rw [worthL_app]
   show M.le (M.mul (worthL M l1) (M.mul e.c (worthL M l2))) _
   exact mul_le M w1 (mul_le_left M ht _ _)
  by_cases z:M.mul (best M es s n e.f) e.c=M.zero
  ·rw [z] at w2
   rw [le_zero M w2]; exact zero_le M x
  ·obtain ⟨r,hr,_,le⟩:=I.front e em trivial e1 e2 z
   exact le_trans M w2 (le_trans M le (hx r hr))
 ·have:=hx (s,M.one,[]) (by rw [h]; exact List.mem_singleton.mpr rfl)
  exact le_trans M (le_top1 M ht _) this
theorem DInv.isBest (I:DInv M es s n (fun _=>True) SL RL) {r:RE S} (hr:r∈RL) (hx:∀ r'∈RL,M.le r'.2.1 r.2.1):best M es s n r.1=r.2.1:=by
 obtain ⟨st,w,_⟩:=I.rway r hr
 exact le_anti M (best_le M ht.idem fun l he g=>I.walk hes hs ht hx (I.rS r hr) he g) (w.le_best M ht hes hs)
theorem DInv.done (I:DInv M es s n (fun _=>True) SL []) {v:Nat}:v∈SL.map (·.1) ↔ best M es s n v≠M.zero:=by
 constructor
 ·intro h
  obtain ⟨p,hp,rfl⟩:=List.mem_map.mp h
  exact (I.sway p hp).2
 ·intro h
  by_cases c:v∈SL.map (·.1)
  ·exact c
  ·exact absurd (le_zero M (best_le M ht.idem fun l he g=>I.walk hes hs ht (x:=M.zero) (fun r hr=>nomatch hr) c he g)) h
theorem DInv.settle (I:DInv M es s n (fun _=>True) SL RL) {r:RE S} (hr:r∈RL) (hx:∀ r'∈RL,M.le r'.2.1 r.2.1):DInv M es s n (fun e=>e.f≠r.1) (SL ++ [(r.1,r.2.2)]) (RL.filter fun r'=>decide (r'.1≠r.1)):=by
 have hb:=I.isBest hes hs ht hr hx
 have hS:(SL ++ [(r.1,r.2.2)]).map (·.1)=SL.map (·.1) ++ [r.1]:=by rw [List.map_append]; rfl
 have sub:∀ {r':RE S},r'∈RL.filter (fun r'=>decide (r'.1≠r.1))→r'∈RL∧r'.1≠r.1:=fun h=>⟨(List.mem_filter.mp h).1,of_decide_eq_true (List.mem_filter.mp h).2⟩
 refine ⟨((List.filter_sublist).map _).nodup I.rnd,fun r' h=>?_,fun r' h=>I.rlt r' (sub h).1,fun r' h=>I.rne r' (sub h).1,fun r' h=>?_,?_,fun p hp=>?_,fun p hp=>?_,fun e he hf h1 h2 h3=>?_,.inl ?_⟩
 ·rw [hS]
  intro z
  rcases List.mem_append.mp z with z | z
  ·exact I.rS r' (sub h).1 z
  ·exact (sub h).2 (List.mem_singleton.mp z)
 ·obtain ⟨st,w,a⟩:=I.rway r' (sub h).1
  refine ⟨st,w,fun y hy=>(a y hy).imp id fun z=>?_⟩
  rw [hS]; exact List.mem_append_left _ z
 ·rw [hS,List.nodup_append]
  refine ⟨I.snd,by simp,fun a ha b hb e=>?_⟩
  rw [List.mem_singleton.mp hb] at e
  exact I.rS r hr (e ▸ ha)
 ·rcases List.mem_append.mp hp with hp | hp
  ·exact I.slt p hp
  ·rw [List.mem_singleton.mp hp]; exact I.rlt r hr
 ·rcases List.mem_append.mp hp with hp | hp
  ·obtain ⟨⟨st,w,a⟩,z⟩:=I.sway p hp
   exact ⟨⟨st,w,fun y hy=>by rw [hS]; exact List.mem_append_left _ (a y hy)⟩,z⟩
  ·rw [List.mem_singleton.mp hp]
   obtain ⟨st,w,a⟩:=I.rway r hr
   refine ⟨⟨st,by rw [hb]; exact w,fun y hy=>?_⟩,by rw [hb]; exact I.rne r hr⟩
   rw [hS]
   rcases a y hy with z | z
   ·rw [z]; exact List.mem_append_right _ (List.mem_singleton.mpr rfl)
   ·exact List.mem_append_left _ z
 ·rw [hS] at h1 h2
  have h1:e.f∈SL.map (·.1):=by
   rcases List.mem_append.mp h1 with h1 | h1
   ·exact h1
   ·exact absurd (List.mem_singleton.mp h1) hf
  obtain ⟨r',hr',e1,e2⟩:=I.front e he trivial h1 (fun z=>h2 (List.mem_append_left _ z)) h3
  refine ⟨r',List.mem_filter.mpr ⟨hr',decide_eq_true fun z=>h2 (List.mem_append_right _ (List.mem_singleton.mpr ?_))⟩,e1,e2⟩
  rw [← e1]; exact z
 ·rw [hS]
  rcases I.start with h | ⟨_,h⟩
  ·exact List.mem_append_left _ h
  ·rw [h] at hr
   have:=List.mem_singleton.mp hr
   rw [this]; exact List.mem_append_right _ (List.mem_singleton.mpr rfl)
end
section
variable {M} {es : List (Edge S)} {s n : Nat} {SL : List (Nat × List Nat)} {RL : List (RE S)} {Fr Fr' : Edge S → Prop}
theorem DInv.more (I:DInv M es s n Fr SL RL) (h:∀ e∈es,Fr' e→¬ Fr e→e.f∈SL.map (·.1)→e.t ∉ SL.map (·.1)→M.mul (best M es s n e.f) e.c≠M.zero→∃ r∈RL,r.1=e.t∧M.le (M.mul (best M es s n e.f) e.c) r.2.1):DInv M es s n Fr' SL RL:=by
 refine { I with front:=fun e he hf h1 h2 h3=>?_ }
 by_cases c:Fr e
 ·exact I.front e he c h1 h2 h3
 ·exact h e he hf c h1 h2 h3
def putR (RL:List (RE S)) (r:RE S):List (RE S):=if (RL.map (·.1)).contains r.1=true then RL.map (fun r'=>if r'.1=r.1 then r else r') else RL ++ [r]
theorem put_mem {r r':RE S} (h:r'∈putR RL r):r'=r∨(r'∈RL∧r'.1≠r.1):=by
 unfold putR at h
 split at h
 ·obtain ⟨q,hq,e⟩:=List.mem_map.mp h
  split at e
  ·exact .inl e.symm
  ·rename_i c
   subst e
   exact .inr ⟨hq,c⟩
 ·rename_i c
  rcases List.mem_append.mp h with h | h
  ·refine .inr ⟨h,fun z=>c ?_⟩
   exact List.contains_iff_mem.mpr (List.mem_map.mpr ⟨r',h,z⟩)
  ·exact .inl (List.mem_singleton.mp h)
theorem mem_put (r:RE S):r∈putR RL r:=by
 unfold putR
 split
 ·rename_i c
  obtain ⟨q,hq,e⟩:=List.mem_map.mp (List.contains_iff_mem.mp c)
  exact List.mem_map.mpr ⟨q,hq,if_pos e⟩
 ·exact List.mem_append_right _ (List.mem_singleton.mpr rfl)
theorem mem_put_of {r r':RE S} (h:r'∈RL) (ne:r'.1≠r.1):r'∈putR RL r:=by
 unfold putR
 split
 ·exact List.mem_map.mpr ⟨r',h,if_neg ne⟩
 ·exact List.mem_append_left _ h
theorem put_keys (r:RE S):(putR RL r).map (·.1)=if (RL.map (·.1)).contains r.1=true then RL.map (·.1) else RL.map (·.1) ++ [r.1]:=by
 unfold putR
 split
 ·rw [List.map_map]
  refine List.map_congr_left fun q _=>?_
  show (if q.1=r.1 then r else q).1=q.1
  split
  ·rename_i c; exact c.symm
  ·rfl
 ·rw [List.map_append]; rfl
theorem DInv.put (I:DInv M es s n Fr SL RL) {r:RE S} (hn:r.1 ∉ SL.map (·.1)) (hl:r.1 < n) (hz:r.2.1≠M.zero) (hw:∃ st,Way M es s r.2.2 r.1 r.2.1 st∧∀ y∈st,y=r.1∨y∈SL.map (·.1)) (hold:∀ r'∈RL,r'.1=r.1→M.le r'.2.1 r.2.1) (hS:SL≠[])
  (h:∀ e∈es,Fr' e→¬ Fr e→e.f∈SL.map (·.1)→e.t ∉ SL.map (·.1)→M.mul (best M es s n e.f) e.c≠M.zero→∃ r'∈putR RL r,r'.1=e.t∧M.le (M.mul (best M es s n e.f) e.c) r'.2.1):DInv M es s n Fr' SL (putR RL r):=by
 refine ⟨?_,fun r' h'=>?_,fun r' h'=>?_,fun r' h'=>?_,fun r' h'=>?_,I.snd,I.slt,I.sway,fun e he hf h1 h2 h3=>?_,I.start.imp id fun z=>absurd z.1 hS⟩
 ·rw [put_keys]
  split
  ·exact I.rnd
  ·rename_i c
   rw [List.nodup_append]
   refine ⟨I.rnd,by simp,fun a ha b hb e=>c ?_⟩
   rw [List.mem_singleton.mp hb] at e
   exact List.contains_iff_mem.mpr (e ▸ ha)
 ·rcases put_mem h' with rfl | ⟨q,_⟩
  ·exact hn
  ·exact I.rS r' q
 ·rcases put_mem h' with rfl | ⟨q,_⟩
  ·exact hl
  ·exact I.rlt r' q
 ·rcases put_mem h' with rfl | ⟨q,_⟩
  ·exact hz
  ·exact I.rne r' q
 ·rcases put_mem h' with rfl | ⟨q,_⟩
  ·exact hw
  ·exact I.rway r' q
 ·by_cases c:Fr e
  ·obtain ⟨r',hr',e1,e2⟩:=I.front e he c h1 h2 h3
   by_cases d:r'.1=r.1
   ·exact ⟨r,mem_put r,by rw [← d]; exact e1,le_trans M e2 (hold r' hr' d)⟩
   ·exact ⟨r',mem_put_of hr' d,e1,e2⟩
  ·exact h e he hf c h1 h2 h3
end
end
end Ws
namespace Ws
open PySem
theorem nd_len {n:Nat} {l:List Nat} (nd:l.Nodup) (h:∀ x∈l,x < n):l.length≤n:=by
 by_cases c:l.length≤n
 ·exact c
 ·exfalso
  obtain ⟨i,j,hij,hj,e⟩:=pigeon n (fun i=>l.getD i 0) (fun i hi=>by
   show l.getD i 0 < n
   rw [List.getD_eq_getElem?_getD,List.getElem?_eq_getElem (show i < l.length by omega)]
   exact h _ (List.getElem_mem _))
  have hi':i < l.length:=by omega
  have hj':j < l.length:=by omega
  have e:l.getD i 0=l.getD j 0:=e
  rw [List.getD_eq_getElem?_getD,List.getD_eq_getElem?_getD,List.getElem?_eq_getElem hi',List.getElem?_eq_getElem hj'] at e
  have e:l[i]=l[j]:=e
  have z:i=j:=(List.getElem?_inj hi' nd).mp ((List.getElem?_eq_getElem hi').trans ((congrArg some e).trans (List.getElem?_eq_getElem hj').symm))
  omega
section
variable {S : Type} {M : KSR S} {es : List (Edge S)} {s n : Nat}
theorem Way.nd {ks:List Nat} {u:Nat} {x:S} {st:List Nat} (h:Way M es s ks u x st):st.Nodup∧st.length=ks.length + 1:=by
 induction h with
 | nil=>exact ⟨by simp,rfl⟩
 | snoc hw he hf hn ih =>
  refine ⟨?_,by rw [List.length_append,List.length_append,ih.2]; rfl⟩
  rw [List.nodup_append]
  refine ⟨ih.1,by simp,fun a ha b hb z=>hn ?_⟩
  rw [List.mem_singleton.mp hb] at z
  exact z ▸ ha
theorem Way.lt {ks:List Nat} {u:Nat} {x:S} {st:List Nat} (hes:∀ e∈es,e.f < n∧e.t < n) (hs:s < n) (h:Way M es s ks u x st):(∀ y∈st,y < n)∧∀ k∈ks,k < es.length:=by
 induction h with
 | nil=>exact ⟨fun y hy=>by rw [List.mem_singleton.mp hy]; exact hs,fun k hk=>nomatch hk⟩
 | snoc hw he hf hn ih =>
  refine ⟨fun y hy=>?_,fun k hk=>?_⟩
  ·rcases List.mem_append.mp hy with hy | hy
   ·exact ih.1 y hy
   ·rw [List.mem_singleton.mp hy]; exact (hes _ (List.mem_of_getElem? he)).2
  ·rcases List.mem_append.mp hk with hk | hk
   ·exact ih.2 k hk
   ·rw [List.mem_singleton.mp hk]; exact (List.getElem?_eq_some_iff.mp he).1
theorem Way.short {ks:List Nat} {u:Nat} {x:S} {st:List Nat} (hes:∀ e∈es,e.f < n∧e.t < n) (hs:s < n) (h:Way M es s ks u x st):ks.length < n:=by
 have a:=nd_len h.nd.1 (h.lt hes hs).1
 rw [h.nd.2] at a
 exact a
end
theorem Way.sm {kd:Kd} {ok:KdOk kd} {es:List (Edge (Car kd))} {s:Nat} (hsm:∀ e∈es,Sm 200 (enc kd e.c)) {ks':List Nat} {u:Nat} {x:Car kd} {st:List Nat} (h:Way (ks kd ok) es s ks' u x st):Sm (212 * ks'.length + 40) (enc kd x):=by
 induction h with
 | nil=>exact (sm_one kd ok).mono (by show _≤40; decide)
 | snoc hw he hf hn ih =>
  rw [List.length_append,List.length_singleton]
  exact (sm_mul (ok:=ok) ih (hsm _ (List.mem_of_getElem? he))).mono (by omega)
theorem picks_kd {kd : Kd} {ok : KdOk kd} (h : kno kd = 0 ∨ kno kd = 1 ∨ kno kd = 3) : Picks (ks kd ok) := by
  cases kd with
  | fewest => intro x y; cases x <;> cases y <;> first | exact .inl rfl | exact .inr rfl | skip
              rename_i a b
              show some (min a b) = some a ∨ some (min a b) = some b
              rcases Nat.le_total a b with h | h
              · left; rw [Nat.min_eq_left h]
              · right; rw [Nat.min_eq_right h]
  | widest => intro x y
              show ksWidest.add x y = x ∨ ksWidest.add x y = y
              by_cases h : x.1 ≤ y.1
              · right; exact Subtype.ext (Nat.max_eq_right h)
              · left; exact Subtype.ext (Nat.max_eq_left (by omega))
  | likeliest => intro x y
                 show ksLikeliest.add x y = x ∨ ksLikeliest.add x y = y
                 by_cases h : x.1 < y.1
                 · right; exact Subtype.ext (if_pos h)
                 · left; exact Subtype.ext (if_neg h)
  | rests m => exact absurd h (by show ¬ ((6 : Int) = 0 ∨ (6 : Int) = 1 ∨ (6 : Int) = 3); decide)
  | _ => exact absurd h (by decide)
end Ws
namespace K15
open PySem L2 Ws
seal PE PT PW PA PC PS PSs PG PGs PI PO
def top (i : Nat) : Stmt := PySem.Challenge.pw_waysum_k15_each_refusal_its_own.main.body.getD i (.Pass ⟨0, 0, 0, 0⟩)
structure Adr where
 (cSumError cNoNet cNoWorth cNoPlace cNoRoad cNoSteps cNoPick cNoSum cNoWay cKind cFewest cWidest cCounted cLikeliest cChances cMusts cRests cNet:Addr)
 (tWIDEST tMOST_RESTS tMOST_PLACES tMOST_ROADS tMOST_STEPS:Tok)
def HasK:Kd→Prop
 | .fewest=>True
 | .widest=>True
 | .counted=>True
 | .likeliest=>True
 | .chances=>True
 | .musts=>True
 | .rests _=>True
def Adr.cls (a:Adr):Kd→Addr
 | .fewest=>a.cFewest
 | .widest=>a.cWidest
 | .counted=>a.cCounted
 | .likeliest=>a.cLikeliest
 | .chances=>a.cChances
 | .musts=>a.cMusts
 | .rests _=>a.cRests
structure Tx (K:W.Frag) (mg:Str→Option Value) (a:Adr):Prop where
 b_isinstance:mg "isinstance"=none
 b_len:mg "len"=none
 b_int:mg "int"=none
 b_tuple:mg "tuple"=none
 b_list:mg "list"=none
 b_ValueError:mg "ValueError"=none
 b_range:mg "range"=none
 b_min:mg "min"=none
 b_max:mg "max"=none
 b_enumerate:mg "enumerate"=none
 c_WIDEST:mg "WIDEST"=some (.int 1000000000 a.tWIDEST)
 c_MOST_RESTS:mg "MOST_RESTS"=some (.int 12 a.tMOST_RESTS)
 c_MOST_PLACES:mg "MOST_PLACES"=some (.int 8 a.tMOST_PLACES)
 c_MOST_ROADS:mg "MOST_ROADS"=some (.int 64 a.tMOST_ROADS)
 c_MOST_STEPS:mg "MOST_STEPS"=some (.int 40 a.tMOST_STEPS)
 g_SumError:mg "SumError"=some (.ref a.cSumError)
 g_NoNet:mg "NoNet"=some (.ref a.cNoNet)
 g_NoWorth:mg "NoWorth"=some (.ref a.cNoWorth)
 g_NoPlace:mg "NoPlace"=some (.ref a.cNoPlace)
 g_NoRoad:mg "NoRoad"=some (.ref a.cNoRoad)
 g_NoSteps:mg "NoSteps"=some (.ref a.cNoSteps)
 g_NoPick:mg "NoPick"=some (.ref a.cNoPick)
 g_NoSum:mg "NoSum"=some (.ref a.cNoSum)
 g_NoWay:mg "NoWay"=some (.ref a.cNoWay)
 g_Kind:mg "Kind"=some (.ref a.cKind)
 g_Fewest:mg "Fewest"=some (.ref a.cFewest)
 g_Widest:mg "Widest"=some (.ref a.cWidest)
 g_Counted:mg "Counted"=some (.ref a.cCounted)
 g_Likeliest:mg "Likeliest"=some (.ref a.cLikeliest)
 g_Chances:mg "Chances"=some (.ref a.cChances)
 g_Musts:mg "Musts"=some (.ref a.cMusts)
 g_Rests:mg "Rests"=some (.ref a.cRests)
 g_Net:mg "Net"=some (.ref a.cNet)
 k_SumError:mg "SumError"=some (.ref a.cSumError)
 x_NoNet:ExC K mg "NoNet" a.cNoNet
 exk_NoNet:ExK K a.cNoNet
 exm_NoNet_SumError:W.exmOne K (.ref a.cNoNet) (.ref a.cSumError)=some true
 kt_NoNet_NoPick:W.kitOne K (.ref a.cNoNet) (.ref a.cNoPick)=some false
 kt_NoNet_NoPlace:W.kitOne K (.ref a.cNoNet) (.ref a.cNoPlace)=some false
 kt_NoNet_NoRoad:W.kitOne K (.ref a.cNoNet) (.ref a.cNoRoad)=some false
 kt_NoNet_NoSteps:W.kitOne K (.ref a.cNoNet) (.ref a.cNoSteps)=some false
 kt_NoNet_NoSum:W.kitOne K (.ref a.cNoNet) (.ref a.cNoSum)=some false
 kt_NoNet_NoWay:W.kitOne K (.ref a.cNoNet) (.ref a.cNoWay)=some false
 kt_NoNet_NoWorth:W.kitOne K (.ref a.cNoNet) (.ref a.cNoWorth)=some false
 kt_NoNet_ValueError:W.kitOne K (.ref a.cNoNet) (.type "ValueError")=some true
 x_NoPick:ExC K mg "NoPick" a.cNoPick
 exk_NoPick:ExK K a.cNoPick
 exm_NoPick_SumError:W.exmOne K (.ref a.cNoPick) (.ref a.cSumError)=some true
 kt_NoPick_NoNet:W.kitOne K (.ref a.cNoPick) (.ref a.cNoNet)=some false
 kt_NoPick_NoPlace:W.kitOne K (.ref a.cNoPick) (.ref a.cNoPlace)=some false
 kt_NoPick_NoRoad:W.kitOne K (.ref a.cNoPick) (.ref a.cNoRoad)=some false
 kt_NoPick_NoSteps:W.kitOne K (.ref a.cNoPick) (.ref a.cNoSteps)=some false
 kt_NoPick_NoSum:W.kitOne K (.ref a.cNoPick) (.ref a.cNoSum)=some false
 kt_NoPick_NoWay:W.kitOne K (.ref a.cNoPick) (.ref a.cNoWay)=some false
 kt_NoPick_NoWorth:W.kitOne K (.ref a.cNoPick) (.ref a.cNoWorth)=some false
 kt_NoPick_ValueError:W.kitOne K (.ref a.cNoPick) (.type "ValueError")=some true
 x_NoPlace:ExC K mg "NoPlace" a.cNoPlace
 exk_NoPlace:ExK K a.cNoPlace
 exm_NoPlace_SumError:W.exmOne K (.ref a.cNoPlace) (.ref a.cSumError)=some true
 kt_NoPlace_NoNet:W.kitOne K (.ref a.cNoPlace) (.ref a.cNoNet)=some false
 kt_NoPlace_NoPick:W.kitOne K (.ref a.cNoPlace) (.ref a.cNoPick)=some false
 kt_NoPlace_NoRoad:W.kitOne K (.ref a.cNoPlace) (.ref a.cNoRoad)=some false
 kt_NoPlace_NoSteps:W.kitOne K (.ref a.cNoPlace) (.ref a.cNoSteps)=some false
 kt_NoPlace_NoSum:W.kitOne K (.ref a.cNoPlace) (.ref a.cNoSum)=some false
 kt_NoPlace_NoWay:W.kitOne K (.ref a.cNoPlace) (.ref a.cNoWay)=some false
 kt_NoPlace_NoWorth:W.kitOne K (.ref a.cNoPlace) (.ref a.cNoWorth)=some false
 kt_NoPlace_ValueError:W.kitOne K (.ref a.cNoPlace) (.type "ValueError")=some true
 x_NoRoad:ExC K mg "NoRoad" a.cNoRoad
 exk_NoRoad:ExK K a.cNoRoad
 exm_NoRoad_SumError:W.exmOne K (.ref a.cNoRoad) (.ref a.cSumError)=some true
 kt_NoRoad_NoNet:W.kitOne K (.ref a.cNoRoad) (.ref a.cNoNet)=some false
 kt_NoRoad_NoPick:W.kitOne K (.ref a.cNoRoad) (.ref a.cNoPick)=some false
 kt_NoRoad_NoPlace:W.kitOne K (.ref a.cNoRoad) (.ref a.cNoPlace)=some false
 kt_NoRoad_NoSteps:W.kitOne K (.ref a.cNoRoad) (.ref a.cNoSteps)=some false
 kt_NoRoad_NoSum:W.kitOne K (.ref a.cNoRoad) (.ref a.cNoSum)=some false
 kt_NoRoad_NoWay:W.kitOne K (.ref a.cNoRoad) (.ref a.cNoWay)=some false
 kt_NoRoad_NoWorth:W.kitOne K (.ref a.cNoRoad) (.ref a.cNoWorth)=some false
 kt_NoRoad_ValueError:W.kitOne K (.ref a.cNoRoad) (.type "ValueError")=some true
 x_NoSteps:ExC K mg "NoSteps" a.cNoSteps
 exk_NoSteps:ExK K a.cNoSteps
 exm_NoSteps_SumError:W.exmOne K (.ref a.cNoSteps) (.ref a.cSumError)=some true
 kt_NoSteps_NoNet:W.kitOne K (.ref a.cNoSteps) (.ref a.cNoNet)=some false
 kt_NoSteps_NoPick:W.kitOne K (.ref a.cNoSteps) (.ref a.cNoPick)=some false
 kt_NoSteps_NoPlace:W.kitOne K (.ref a.cNoSteps) (.ref a.cNoPlace)=some false
 kt_NoSteps_NoRoad:W.kitOne K (.ref a.cNoSteps) (.ref a.cNoRoad)=some false
 kt_NoSteps_NoSum:W.kitOne K (.ref a.cNoSteps) (.ref a.cNoSum)=some false
 kt_NoSteps_NoWay:W.kitOne K (.ref a.cNoSteps) (.ref a.cNoWay)=some false
 kt_NoSteps_NoWorth:W.kitOne K (.ref a.cNoSteps) (.ref a.cNoWorth)=some false
 kt_NoSteps_ValueError:W.kitOne K (.ref a.cNoSteps) (.type "ValueError")=some true
 x_NoSum:ExC K mg "NoSum" a.cNoSum
 exk_NoSum:ExK K a.cNoSum
 exm_NoSum_SumError:W.exmOne K (.ref a.cNoSum) (.ref a.cSumError)=some true
 kt_NoSum_NoNet:W.kitOne K (.ref a.cNoSum) (.ref a.cNoNet)=some false
 kt_NoSum_NoPick:W.kitOne K (.ref a.cNoSum) (.ref a.cNoPick)=some false
 kt_NoSum_NoPlace:W.kitOne K (.ref a.cNoSum) (.ref a.cNoPlace)=some false
 kt_NoSum_NoRoad:W.kitOne K (.ref a.cNoSum) (.ref a.cNoRoad)=some false
 kt_NoSum_NoSteps:W.kitOne K (.ref a.cNoSum) (.ref a.cNoSteps)=some false
 kt_NoSum_NoWay:W.kitOne K (.ref a.cNoSum) (.ref a.cNoWay)=some false
 kt_NoSum_NoWorth:W.kitOne K (.ref a.cNoSum) (.ref a.cNoWorth)=some false
 kt_NoSum_ValueError:W.kitOne K (.ref a.cNoSum) (.type "ValueError")=some true
 x_NoWay:ExC K mg "NoWay" a.cNoWay
 exk_NoWay:ExK K a.cNoWay
 exm_NoWay_SumError:W.exmOne K (.ref a.cNoWay) (.ref a.cSumError)=some true
 kt_NoWay_NoNet:W.kitOne K (.ref a.cNoWay) (.ref a.cNoNet)=some false
 kt_NoWay_NoPick:W.kitOne K (.ref a.cNoWay) (.ref a.cNoPick)=some false
 kt_NoWay_NoPlace:W.kitOne K (.ref a.cNoWay) (.ref a.cNoPlace)=some false
 kt_NoWay_NoRoad:W.kitOne K (.ref a.cNoWay) (.ref a.cNoRoad)=some false
 kt_NoWay_NoSteps:W.kitOne K (.ref a.cNoWay) (.ref a.cNoSteps)=some false
 kt_NoWay_NoSum:W.kitOne K (.ref a.cNoWay) (.ref a.cNoSum)=some false
 kt_NoWay_NoWorth:W.kitOne K (.ref a.cNoWay) (.ref a.cNoWorth)=some false
 kt_NoWay_ValueError:W.kitOne K (.ref a.cNoWay) (.type "ValueError")=some true
 x_NoWorth:ExC K mg "NoWorth" a.cNoWorth
 exk_NoWorth:ExK K a.cNoWorth
 exm_NoWorth_SumError:W.exmOne K (.ref a.cNoWorth) (.ref a.cSumError)=some true
 kt_NoWorth_NoNet:W.kitOne K (.ref a.cNoWorth) (.ref a.cNoNet)=some false
 kt_NoWorth_NoPick:W.kitOne K (.ref a.cNoWorth) (.ref a.cNoPick)=some false
 kt_NoWorth_NoPlace:W.kitOne K (.ref a.cNoWorth) (.ref a.cNoPlace)=some false
 kt_NoWorth_NoRoad:W.kitOne K (.ref a.cNoWorth) (.ref a.cNoRoad)=some false
 kt_NoWorth_NoSteps:W.kitOne K (.ref a.cNoWorth) (.ref a.cNoSteps)=some false
 kt_NoWorth_NoSum:W.kitOne K (.ref a.cNoWorth) (.ref a.cNoSum)=some false
 kt_NoWorth_NoWay:W.kitOne K (.ref a.cNoWorth) (.ref a.cNoWay)=some false
 kt_NoWorth_ValueError:W.kitOne K (.ref a.cNoWorth) (.type "ValueError")=some true
 n_Fewest:Mk0 K mg "Fewest" a.cFewest
 n_Widest:Mk0 K mg "Widest" a.cWidest
 n_Counted:Mk0 K mg "Counted" a.cCounted
 n_Likeliest:Mk0 K mg "Likeliest" a.cLikeliest
 n_Chances:Mk0 K mg "Chances" a.cChances
 n_Musts:Mk0 K mg "Musts" a.cMusts
 mk_Rests:W.makesIn K a.cRests=true
 kp_Rests:W.keepIn K (.ref a.cRests)=true
 na_Rests_m:NoAttr K a.cRests "m"
 mk_Net:W.makesIn K a.cNet=true
 kp_Net:W.keepIn K (.ref a.cNet)=true
 na_Net_own_kind:NoAttr K a.cNet "own_kind"
 na_Net_how_many:NoAttr K a.cNet "how_many"
 na_Net_own_roads:NoAttr K a.cNet "own_roads"
 cl_Net:Cls K a.cNet
 cl:∀ kd,HasK kd→Cls K (a.cls kd)
 ins:∀ kd,HasK kd→InsK K (a.cls kd)
 kt_Fewest_Chances:W.kitOne K (.ref a.cFewest) (.ref a.cChances)=some false
 kt_Widest_Chances:W.kitOne K (.ref a.cWidest) (.ref a.cChances)=some false
 kt_Counted_Chances:W.kitOne K (.ref a.cCounted) (.ref a.cChances)=some false
 kt_Likeliest_Chances:W.kitOne K (.ref a.cLikeliest) (.ref a.cChances)=some false
 kt_Chances_Chances:W.kitOne K (.ref a.cChances) (.ref a.cChances)=some true
 kt_Musts_Chances:W.kitOne K (.ref a.cMusts) (.ref a.cChances)=some false
 kt_Rests_Chances:W.kitOne K (.ref a.cRests) (.ref a.cChances)=some false
abbrev KI:={kd:Kd // HasK kd}
abbrev Adr.cl (a:Adr) (i:KI):Addr:=a.cls i.1
def IsW (H:Hp):V→Wd→Prop
 | .non,.non=>True
 | .int i,.int j=>i=j
 | .ref p,.pair a b=>H p=some (.tup [.int a,.int b])
 | _,_=>False
theorem IsW.same {H H':Hp} (e:Same H H'):∀ {v:V} {w:Wd},IsW H v w→IsW H' v w
 | .non,.non,_=>True.intro
 | .int _,.int _,h=>h
 | .ref _,.pair _ _,h=>e _ _ h
theorem isW_cases {H:Hp}:∀ {v:V} {w:Wd},IsW H v w→(v=.non∧w=.non)∨(∃ i,v=.int i∧w=.int i)∨(∃ p a b,v=.ref p∧w=.pair a b∧H p=some (.tup [.int a,.int b]))
 | .non,.non,_=>.inl ⟨rfl,rfl⟩
 | .int _,.int _,h=>.inr (.inl ⟨_,rfl,congrArg Wd.int h.symm⟩)
 | .ref _,.pair _ _,h=>.inr (.inr ⟨_,_,_,rfl,rfl,h⟩)
theorem kit_nI {K:W.Frag}:W.kitOne K (.type "NoneType") (.type "int")=some false:=by rfl
theorem kit_iI {K:W.Frag}:W.kitOne K (.type "int") (.type "int")=some true:=by rfl
theorem kit_tI {K:W.Frag}:W.kitOne K (.type "tuple") (.type "int")=some false:=by rfl
theorem kit_nT {K:W.Frag}:W.kitOne K (.type "NoneType") (.type "tuple")=some false:=by rfl
theorem kit_iT {K:W.Frag}:W.kitOne K (.type "int") (.type "tuple")=some false:=by rfl
theorem kit_tT {K:W.Frag}:W.kitOne K (.type "tuple") (.type "tuple")=some true:=by rfl
def kfs:Kd→List (Str × V)
 | .rests m=>[("m",.int (m:Int))]
 | _=>[]
def KindAt (a:Adr) (H:Hp) (p:Addr) (kd:Kd):Prop:=∃ dx,H p=some (.ins (a.cls kd) dx (kfs kd))
section
variable {P : Program} {w : World} {K : W.Frag} {mg : Str → Option Value} {base : Heap} {a : Adr}
theorem log2_small {i:Int} (h:i.natAbs < 10 ^ 62):i.natAbs.log2 < 1920:=by
 by_cases z:i.natAbs=0
 ·rw [z]; decide
 ·have:=(Nat.log2_lt z (k:=210)).mpr (Nat.lt_trans h (by decide))
  omega
def spDivisor:Sp:=fun vs H Q _=>∃ x y:Int,vs=[.int x,.int y]∧0 < y∧Q (.int (Int.gcd x y:Int)) H
theorem sc_divisor:FnScope ["first","second","left"] ["first","second"] (defScope (top 11)):=⟨rfl,rfl,rfl,by decide +kernel,rfl,by decide +kernel,by decide +kernel⟩
theorem d_divisor (F:DefAt K mg "divisor" (top 11)):Dn P w K mg base 1 "divisor" ["first","second"] spDivisor:=by
 obtain ⟨f,fd,hm,F⟩:=F.ex
 refine ⟨f,fd,hm,F.kp,F.binds fun _ _ _ _ _ _ us hl=>match us,hl with | [_,_],_=>rfl,?_⟩
 refine F.okN sc_divisor (fun vs H Q E h=>?_) (fun cdv A outer s H vs Q E hr h=>?_)
 ·obtain ⟨x,y,rfl,_⟩:=h
  rfl
 ·obtain ⟨x,y,rfl,hy,q⟩:=h
  refine ⟨_,(pss_cons (ps_while PassesOwn.never (pt_cmpR op_gt (pv 1) pe_int (nomark _)) (pss_cons (ps_set (i:=2) sc_divisor.nd rfl (Or.inl rfl) (pe_op op_mod (pv 0) (pv 1)))
   (pss_cons (ps_set (i:=0) sc_divisor.nd rfl (Or.inl rfl) (pv 1))
   (pss_one (ps_set (i:=1) sc_divisor.nd rfl (Or.inl rfl) (pv 2))))))
   (pss_one (ps_ret (pv 0)))),?_⟩
  refine ⟨fun m σ H'=>∃ x' y' l,σ=[some (.int x'),some (.int y'),l]∧H'=H∧0≤y'∧m=y'.toNat∧Int.gcd x' y'=Int.gcd x y∧(y'=0→0≤x'),⟨_,x,y,_,rfl,rfl,by omega,rfl,rfl,fun z=>by omega⟩,?_⟩
  rintro m σ H' ⟨x',y',l,rfl,rfl,h0,rfl,hg,hx⟩
  refine ⟨_,rfl,_,_,rfl,rfl,_,rfl,?_⟩
  refine ite2 (fun c=>?_) (fun c=>?_)
  ·have c:0 < y':=of_decide_eq_true c
   refine ⟨fun σ' H'=>_,fun _ _ z=>z,?_⟩
   refine ⟨_,rfl,_,rfl,_,_,rfl,rfl,c,_,rfl,_,rfl,?_⟩
   refine ⟨(x' % y').toNat,?_,_,_,_,rfl,rfl,Int.emod_nonneg _ (by omega),rfl,?_,fun _=>by omega⟩
   ·have:=Int.emod_lt_of_pos x' c
    have:=Int.emod_nonneg x' (show y'≠0 by omega)
    omega
   ·rw [← hg]
    exact gcd_step x' y'
  ·have c:¬ 0 < y':=fun z=>c (decide_eq_true z)
   obtain rfl:y'=0:=by omega
   refine ⟨_,rfl,?_⟩
   rw [Int.gcd_zero_right] at hg
   have:x'=(Int.gcd x y:Int):=by rw [← hg]; have:=hx rfl; omega
   rw [this]
   exact q
theorem isW_int {H:Hp} {v:V} {i:Int} (h:IsW H v (.int i)):v=.int i:=by
 rcases isW_cases h with ⟨_,z⟩ | ⟨j,e,z⟩ | ⟨p,x,y,_,z,_⟩ <;> cases z
 exact e
theorem isW_pair {H:Hp} {v:V} {x y:Int} (h:IsW H v (.pair x y)):∃ p,v=.ref p∧H p=some (.tup [.int x,.int y]):=by
 rcases isW_cases h with ⟨_,z⟩ | ⟨j,e,z⟩ | ⟨p,x,y,e,z,h⟩ <;> cases z
 exact ⟨p,e,h⟩
theorem isW_non {H:Hp} {v:V} (h:IsW H v .non):v=.non:=by
 rcases isW_cases h with ⟨e,z⟩ | ⟨j,e,z⟩ | ⟨p,x,y,e,z,h⟩ <;> cases z
 exact e
theorem m_of {kd:Kd} (hk:HasK kd) {m qual:Str} {st:Stmt} {ps:List Str} {k:Nat} {sp:Sp} (T:Tx K mg a) (F:MthAt K (a.cls kd) m qual st)
  (hb:∀ (kV doc pm:Value) (an:Option Addr) (cdv ct:Value) (us:List Value),us.length=ps.length→bindArgs (W.fnOf m qual (defArgs st) (defBody st) (defScope st) .none kV doc pm an cdv ct) ⟨us,[]⟩=pure (ps.zip us))
  (h:∀ f fd,Fun K m qual st f fd→FnOk P w K mg base (CXE P w) k f fd ps sp) :
  Cls K (a.cls kd)∧∃ f fd,Meth K (a.cls kd) m f∧Binds K fd ps []∧FnOk P w K mg base (CXE P w) k f fd ps sp:=by
 obtain ⟨f,fd,hf,hi,F⟩:=F.ex
 exact ⟨T.cl kd hk,f,fd,⟨hf,hi,F.kp⟩,F.binds hb,h f fd F⟩
theorem rais_cx {N:List Str} {qual:Str} {scope:Scope} {f:Addr} {cd:Value} {A:Around} {outer:List Env} {s:Shared} {H:Hp} {E:XK} (hk:scope.kind=.function:=by rfl):Rais (cxOf (CXE P w) P w K mg base N qual scope f cd A outer s H E) E :=
 fun _ _ _ _ _ _ _ _ I mx q=>raise_cx I hk mx q
def spInit (a:Adr):Sp:=fun vs H Q E=>∃ p dx m,vs=[.ref p,.int m]∧H p=some (.ins a.cRests dx [])∧m.natAbs.log2 < 1920∧((1≤m∧m≤12)→Q .non (upd H p (.ins a.cRests dx [("m",.int m)])))∧(¬ (1≤m∧m≤12)→E (.ref a.cNoWorth) none H)
theorem sc_Rests_init:FnScope ["self","m"] ["self","m"] (defScope (inClass (top 30) 0)):=⟨rfl,rfl,rfl,by decide +kernel,rfl,by decide +kernel,by decide +kernel⟩
theorem make_Rests (T:Tx K mg a) (F:MthAt K a.cRests "__init__" "Rests.__init__" (inClass (top 30) 0)):Mkr P w K mg base 1 "Rests" a.cRests ["self","m"] (spInit a):=by
 obtain ⟨f,fd,hf,hi,F⟩:=F.ex
 refine ⟨T.g_Rests,f,fd,⟨T.mk_Rests,hf,hi,T.kp_Rests⟩,F.binds fun _ _ _ _ _ _ us hl=>match us,hl with | [_,_],_=>rfl,?_⟩
 refine F.okX sc_Rests_init (fun vs H Q E h=>?_) (fun cdv A outer s H vs Q E hr h=>?_)
 ·obtain ⟨_,_,_,rfl,_⟩:=h
  rfl
 ·obtain ⟨p,dx,m,rfl,hp,hl,q,e⟩:=h
  refine ⟨_,(pss_cons (ps_if (PW.pt (pw_or (pt_cmpR op_lt (pv 1) pe_int (nomark _)) (pw_or1 (pt_cmpR op_gt (pv 1) (pe_glob (v:=V.int 12) rfl T.c_MOST_RESTS ⟨_,rfl⟩) (nomark _))))) (pss_one (ps_raise T.x_NoWorth rfl rfl rais_cx (pa_cons (hs:=st_JoinedStr) (pe_fstr2 (pv 1)) pa_nil))) pss_nil)
   (pss_one (ps_fld (pv 0) (pv 1) rfl))),?_⟩
  have hs:(Str.ofString "rests are told by 1 to 12, not by ").length≤1000:=by decide +kernel
  refine ⟨_,rfl,_,_,rfl,rfl,_,rfl,iteD (fun c=>?_) (fun c=>?_)⟩
  ·exact ⟨hs,_,rfl,_,rfl,hl,fun z=>⟨by show 1≤sizeLine; decide,e (fun ⟨y,_⟩=>by omega)⟩⟩
  ·refine ⟨_,rfl,_,_,rfl,rfl,_,rfl,iteD (fun c2=>?_) (fun c2=>?_)⟩
   ·exact ⟨hs,_,rfl,_,rfl,hl,fun z=>⟨by show 1≤sizeLine; decide,e (fun ⟨_,y⟩=>by omega)⟩⟩
   ·exact ⟨_,rfl,_,rfl,p,_,dx,[],rfl,hp,T.cl (.rests 1) trivial,T.na_Rests_m,(by show 0 < 1000; decide),q ⟨by omega,by omega⟩⟩
def spCell (K:W.Frag):Sp:=fun vs H Q _=>∃ (sa:Addr) (ns:List Int) (k:Int),vs=[.ref sa,.int k]∧SqL K H sa (ns.map V.int)∧0≤k∧Q (.int (ns.getD k.toNat 0)) H
theorem sc_law_cell_at:FnScope ["script","k"] ["script","k"] (defScope (top 59)):=⟨rfl,rfl,rfl,by decide +kernel,rfl,by decide +kernel,by decide +kernel⟩
theorem d_cell (T:Tx K mg a) (F:DefAt K mg "_law_cell_at" (top 59)):Dn P w K mg base 1 "_law_cell_at" ["script","k"] (spCell K):=by
 obtain ⟨f,fd,hm,F⟩:=F.ex
 refine ⟨f,fd,hm,F.kp,F.binds fun _ _ _ _ _ _ us hl=>match us,hl with | [_,_],_=>rfl,?_⟩
 refine F.okN sc_law_cell_at (fun vs H Q E h=>?_) (fun cdv A outer s H vs Q E hr h=>?_)
 ·obtain ⟨_,_,_,rfl,_⟩:=h
  rfl
 ·obtain ⟨sa,ns,k,rfl,hS,h0,q⟩:=h
  refine ⟨_,(pss_cons (ps_if (pt_cmpR op_lt (pv 1) (pe_callB call_len_seq rfl T.b_len bt_len (pa_cons (hs:=st_Name) (pv 0) pa_nil)) (nomark _)) (pss_one (ps_ret (pe_ix ix_list (pv 0) (pv 1) (fun _ _=>rfl)))) pss_nil)
   (pss_one (ps_ret pe_int))),?_⟩
  refine ⟨_,rfl,_,rfl,sa,_,rfl,.inl hS,_,_,rfl,rfl,_,rfl,iteD (fun c=>?_) (fun c=>?_)⟩
  ·rw [List.length_map] at c
   have e:atI (ns.map V.int) k=some (V.int (ns.getD k.toNat 0)):=by
    have e1:(ns.map V.int)[k.toNat]?=some (V.int (ns.getD k.toNat 0)):=by
     rw [List.getElem?_map,List.getD_eq_getElem?_getD,List.getElem?_eq_getElem (by omega)]
     rfl
    have:=atI_nat e1
    rw [show ((k.toNat:Nat):Int)=k by omega] at this
    exact this
   exact ⟨_,rfl,_,rfl,sa,_,k,_,rfl,rfl,hS,e,q⟩
  ·rw [List.length_map] at c
   have e:ns.getD k.toNat 0=0:=by
    rw [List.getD_eq_getElem?_getD,List.getElem?_eq_none (by omega)]
    rfl
   rw [e] at q
   exact q
def spLaw (K:W.Frag):Sp:=fun vs H Q _=>∃ (sa:Addr) (ns:List Int),vs=[.ref sa]∧SqL K H sa (ns.map V.int)∧ns.length≤63∧∀ H',Q (.bl true) H'
end
end K15
namespace K15
open PySem L2 Ws
seal PE PT PW PA PC PS PSs PG PGs PI PO
section
variable {P : Program} {w : World} {K : W.Frag} {mg : Str → Option Value} {base : Heap} {a : Adr}
theorem kfs_no (kd:Kd) {x:Str} (h:(x == ("m":Str))=false):(kfs kd).lookup x=none:=by
 cases kd <;> first | rfl | (simp only [kfs,List.lookup,h])
theorem counted_is {H:Hp} {v:V} {x:Car .counted} (h:IsW H v (enc .counted x)):∃ i:Int,v=.int i∧enc .counted x=.int i∧((i=-1∧x=none)∨∃ n:Nat,i=n∧x=some n):=by
 rcases x with _ | n
 ·exact ⟨_,isW_int h,rfl,.inl ⟨rfl,rfl⟩⟩
 ·exact ⟨_,isW_int h,rfl,.inr ⟨n,rfl,rfl⟩⟩
theorem counted_zero {x y:Option Nat} {i:Int} (hx:(i=-1∧x=none)∨∃ n:Nat,i=n∧x=some n) (z:i=0):enc .counted (oMul x y)=.int 0:=by
 obtain ⟨n,e,rfl⟩:=hx.resolve_left (fun e=>by omega)
 obtain rfl:n=0:=by omega
 rw [oMul_zero]; rfl
theorem counted_endless {x y:Option Nat} {i j:Int} (hx:(i=-1∧x=none)∨∃ n:Nat,i=n∧x=some n) (hy:(j=-1∧y=none)∨∃ n:Nat,j=n∧y=some n) (zi:i≠0) (zj:j≠0) (h:i=-1∨j=-1) :
  enc .counted (oMul x y)=.int (-1):=by
 rcases hx with ⟨_,rfl⟩ | ⟨n,e,rfl⟩
 ·rcases hy with ⟨_,rfl⟩ | ⟨k,e',rfl⟩
  ·rfl
  ·obtain ⟨k,rfl⟩:∃ l,k=l + 1:=⟨k - 1,by omega⟩
   rfl
 ·rcases hy with ⟨_,rfl⟩ | ⟨k,e',rfl⟩
  ·obtain ⟨n,rfl⟩:∃ l,n=l + 1:=⟨n - 1,by omega⟩
   rfl
  ·omega
theorem counted_prod {x y:Option Nat} {i j:Int} (hx:(i=-1∧x=none)∨∃ n:Nat,i=n∧x=some n) (hy:(j=-1∧y=none)∨∃ n:Nat,j=n∧y=some n) (zi:i≠-1) (zj:j≠-1) :
  enc .counted (oMul x y)=.int (i * j):=by
 obtain ⟨n,rfl,rfl⟩:=hx.resolve_left (fun e=>zi e.1)
 obtain ⟨k,rfl,rfl⟩:=hy.resolve_left (fun e=>zj e.1)
 rw [oMul_some]
 show Wd.int ((n * k:Nat):Int)=_
 rw [Int.natCast_mul]
def spLowest:Sp:=fun vs H Q _=>∃ t b:Int,vs=[.int t,.int b]∧0 < b∧∀ v H',Same H H'→IsW H' v (shareW t b)→Q v H'
theorem sc_lowest:FnScope ["first","second","common"] ["first","second"] (defScope (top 13)):=⟨rfl,rfl,rfl,by decide +kernel,rfl,by decide +kernel,by decide +kernel⟩
theorem d_lowest (hP:P.given.tree=none) (D_divisor:Dn P w K mg base 1 "divisor" ["first","second"] spDivisor) (F:DefAt K mg "lowest" (top 13)):Dn P w K mg base 33 "lowest" ["first","second"] spLowest:=by
 obtain ⟨f,fd,hm,F⟩:=F.ex
 refine ⟨f,fd,hm,F.kp,F.binds fun _ _ _ _ _ _ us hl=>match us,hl with | [_,_],_=>rfl,?_⟩
 refine F.okN sc_lowest (fun vs H Q E h=>?_) (fun cdv A outer s H vs Q E hr h=>?_)
 ·obtain ⟨_,_,rfl,_⟩:=h
  rfl
 ·obtain ⟨t,b,rfl,hb,q⟩:=h
  have hd:(A.deeper (PyProof.Rows.envOfC "lowest" (defScope (top 13)) s.heap.objs.size f cdv)).depth + 100 < recursionLimit:=by have:=hr.dp; omega
  refine ⟨_,(pss_cons (ps_set (i:=2) sc_lowest.nd rfl (Or.inl rfl) (pe_callD D_divisor (hr.mono (by decide)) rfl passE0 (pa_cons (hs:=st_Name) (pv 0) (pa_cons (hs:=st_Name) (pv 1) pa_nil))))
   (pss_one (ps_ret (pe_tup (pa_cons (hs:=st_BinOp) (pe_op (op_fdivA hP hd rfl rfl rfl) (pv 0) (pv 2)) (pa_cons (hs:=st_BinOp) (pe_op (op_fdivA hP hd rfl rfl rfl) (pv 1) (pv 2)) pa_nil)))))),?_⟩
  have gp:=gcd_pos (a:=t) hb
  refine ⟨_,rfl,_,rfl,t,b,rfl,hb,?_⟩
  refine ⟨_,rfl,_,rfl,_,_,rfl,rfl,gp,_,rfl,_,rfl,_,_,rfl,rfl,gp,(by show 2≤sizeLine; decide),fun p np=>?_⟩
  exact q (.ref p) _ (same_one np) upd_same
def spTwo (f:Rat→Rat→Rat):Sp:=fun vs H Q _=>∃ (v1 v2:V) (p q:Rat),vs=[v1,v2]∧IsW H v1 (ofR p)∧IsW H v2 (ofR q)∧Sm Big (ofR p)∧Sm Big (ofR q)∧∀ v H',Same H H'→IsW H' v (ofR (f p q))→Q v H'
theorem sc_added:FnScope ["one","other"] ["one","other"] (defScope (top 14)):=⟨rfl,rfl,rfl,by decide +kernel,rfl,by decide +kernel,by decide +kernel⟩
theorem d_added (D_lowest:Dn P w K mg base 33 "lowest" ["first","second"] spLowest) (F:DefAt K mg "added" (top 14)):Dn P w K mg base 34 "added" ["one","other"] (spTwo fun p q=>p + q):=by
 obtain ⟨f,fd,hm,F⟩:=F.ex
 refine ⟨f,fd,hm,F.kp,F.binds fun _ _ _ _ _ _ us hl=>match us,hl with | [_,_],_=>rfl,?_⟩
 refine F.okN sc_added (fun vs H Q E h=>?_) (fun cdv A outer s H vs Q E hr h=>?_)
 ·obtain ⟨_,_,_,_,rfl,_⟩:=h
  rfl
 ·obtain ⟨v1,v2,p,q,rfl,h1,h2,s1,s2,k⟩:=h
  obtain ⟨r1,rfl,e1⟩:=isW_pair h1
  obtain ⟨r2,rfl,e2⟩:=isW_pair h2
  refine ⟨_,(pss_one (ps_ret (pe_callD D_lowest (hr.mono (by decide)) rfl passE0 (pa_cons (hs:=st_BinOp) (pe_op op_add (pe_op op_mulX (pe_ix ix_tup (pv 0) pe_int (fun _ _=>rfl)) (pe_ix ix_tup (pv 1) pe_int (fun _ _=>rfl))) (pe_op op_mulX (pe_ix ix_tup (pv 1) pe_int (fun _ _=>rfl)) (pe_ix ix_tup (pv 0) pe_int (fun _ _=>rfl)))) (pa_cons (hs:=st_BinOp) (pe_op op_mulX (pe_ix ix_tup (pv 0) pe_int (fun _ _=>rfl)) (pe_ix ix_tup (pv 1) pe_int (fun _ _=>rfl))) pa_nil))))),?_⟩
  refine ⟨_,rfl,r1,_,_,_,rfl,rfl,SqT.of e1,rfl,_,rfl,r2,_,_,_,rfl,rfl,SqT.of e2,rfl,_,_,rfl,rfl,big_mul s1.1 s2.2,?_⟩
  refine ⟨_,rfl,r2,_,_,_,rfl,rfl,SqT.of e2,rfl,_,rfl,r1,_,_,_,rfl,rfl,SqT.of e1,rfl,_,_,rfl,rfl,big_mul s2.1 s1.2,_,_,rfl,rfl,?_⟩
  refine ⟨_,rfl,r1,_,_,_,rfl,rfl,SqT.of e1,rfl,_,rfl,r2,_,_,_,rfl,rfl,SqT.of e2,rfl,_,_,rfl,rfl,big_mul s1.2 s2.2,?_⟩
  refine ⟨_,_,rfl,Int.mul_pos (den_pos p) (den_pos q),fun v H' s' hv=>k v H' s' ?_⟩
  rw [add_shareW] at hv
  exact hv
theorem sc_multiplied:FnScope ["one","other","left","right"] ["one","other"] (defScope (top 15)):=⟨rfl,rfl,rfl,by decide +kernel,rfl,by decide +kernel,by decide +kernel⟩
theorem d_multiplied (D_lowest:Dn P w K mg base 33 "lowest" ["first","second"] spLowest) (F:DefAt K mg "multiplied" (top 15)):Dn P w K mg base 34 "multiplied" ["one","other"] (spTwo fun p q=>p * q):=by
 obtain ⟨f,fd,hm,F⟩:=F.ex
 refine ⟨f,fd,hm,F.kp,F.binds fun _ _ _ _ _ _ us hl=>match us,hl with | [_,_],_=>rfl,?_⟩
 refine F.okN sc_multiplied (fun vs H Q E h=>?_) (fun cdv A outer s H vs Q E hr h=>?_)
 ·obtain ⟨_,_,_,_,rfl,_⟩:=h
  rfl
 ·obtain ⟨v1,v2,p,q,rfl,h1,h2,s1,s2,k⟩:=h
  obtain ⟨r1,rfl,e1⟩:=isW_pair h1
  obtain ⟨r2,rfl,e2⟩:=isW_pair h2
  refine ⟨_,(pss_cons (ps_set (i:=2) sc_multiplied.nd rfl (Or.inl rfl) (pe_callD D_lowest (hr.mono (by decide)) rfl passE0 (pa_cons (hs:=st_Subscript) (pe_ix ix_tup (pv 0) pe_int (fun _ _=>rfl)) (pa_cons (hs:=st_Subscript) (pe_ix ix_tup (pv 1) pe_int (fun _ _=>rfl)) pa_nil))))
   (pss_cons (ps_set (i:=3) sc_multiplied.nd rfl (Or.inl rfl) (pe_callD D_lowest (hr.mono (by decide)) rfl passE0 (pa_cons (hs:=st_Subscript) (pe_ix ix_tup (pv 1) pe_int (fun _ _=>rfl)) (pa_cons (hs:=st_Subscript) (pe_ix ix_tup (pv 0) pe_int (fun _ _=>rfl)) pa_nil))))
   (pss_one (ps_ret (pe_tup (pa_cons (hs:=st_BinOp) (pe_op op_mulX (pe_ix ix_tup (pv 2) pe_int (fun _ _=>rfl)) (pe_ix ix_tup (pv 3) pe_int (fun _ _=>rfl))) (pa_cons (hs:=st_BinOp) (pe_op op_mulX (pe_ix ix_tup (pv 2) pe_int (fun _ _=>rfl)) (pe_ix ix_tup (pv 3) pe_int (fun _ _=>rfl))) pa_nil))))))),?_⟩
  refine ⟨_,rfl,r1,_,_,_,rfl,rfl,SqT.of e1,rfl,_,rfl,r2,_,_,_,rfl,rfl,SqT.of e2,rfl,_,_,rfl,den_pos q,fun v3 H3 s3 h3=>?_⟩
  obtain ⟨r3,rfl,e3⟩:=isW_pair h3
  refine ⟨_,rfl,r2,_,_,_,rfl,rfl,SqT.of (s3 _ _ e2),rfl,_,rfl,r1,_,_,_,rfl,rfl,SqT.of (s3 _ _ e1),rfl,_,_,rfl,den_pos p,fun v4 H4 s4 h4=>?_⟩
  obtain ⟨r4,rfl,e4⟩:=isW_pair h4
  have sm:∀ {i j:Int},Builtin.Int.intBits i≤Big→Builtin.Int.intBits (i / j)≤Big:=fun {i j} h=>intBits_le_of_natAbs (Int.natAbs_ediv_le_natAbs i j) h
  refine ⟨_,rfl,r3,_,_,_,rfl,rfl,SqT.of (s4 _ _ e3),rfl,_,rfl,r4,_,_,_,rfl,rfl,SqT.of e4,rfl,_,_,rfl,rfl,big_mul (sm s1.1) (sm s2.1),?_⟩
  refine ⟨_,rfl,r3,_,_,_,rfl,rfl,SqT.of (s4 _ _ e3),rfl,_,rfl,r4,_,_,_,rfl,rfl,SqT.of e4,rfl,_,_,rfl,rfl,big_mul (sm s2.2) (sm s1.2),(by show 2≤sizeLine; decide),fun p5 np=>?_⟩
  refine k (.ref p5) _ ((s3.trans s4).trans (same_one np)) ?_
  show IsW _ _ (ofR (p * q))
  rw [← mul_cross]
  exact upd_same
theorem sc_greater:FnScope ["one","other"] ["one","other"] (defScope (top 16)):=⟨rfl,rfl,rfl,by decide +kernel,rfl,by decide +kernel,by decide +kernel⟩
theorem d_greater (F:DefAt K mg "greater" (top 16)):Dn P w K mg base 1 "greater" ["one","other"] (spTwo rmax):=by
 obtain ⟨f,fd,hm,F⟩:=F.ex
 refine ⟨f,fd,hm,F.kp,F.binds fun _ _ _ _ _ _ us hl=>match us,hl with | [_,_],_=>rfl,?_⟩
 refine F.okN sc_greater (fun vs H Q E h=>?_) (fun cdv A outer s H vs Q E hr h=>?_)
 ·obtain ⟨_,_,_,_,rfl,_⟩:=h
  rfl
 ·obtain ⟨v1,v2,p,q,rfl,h1,h2,s1,s2,k⟩:=h
  obtain ⟨r1,rfl,e1⟩:=isW_pair h1
  obtain ⟨r2,rfl,e2⟩:=isW_pair h2
  refine ⟨_,(pss_cons (ps_if (pt_cmpR op_lt (pe_op op_mulX (pe_ix ix_tup (pv 0) pe_int (fun _ _=>rfl)) (pe_ix ix_tup (pv 1) pe_int (fun _ _=>rfl))) (pe_op op_mulX (pe_ix ix_tup (pv 1) pe_int (fun _ _=>rfl)) (pe_ix ix_tup (pv 0) pe_int (fun _ _=>rfl))) (nomark _)) (pss_one (ps_ret (pv 1))) pss_nil)
   (pss_one (ps_ret (pv 0)))),?_⟩
  refine ⟨_,rfl,r1,_,_,_,rfl,rfl,SqT.of e1,rfl,_,rfl,r2,_,_,_,rfl,rfl,SqT.of e2,rfl,_,_,rfl,rfl,big_mul s1.1 s2.2,?_⟩
  refine ⟨_,rfl,r2,_,_,_,rfl,rfl,SqT.of e2,rfl,_,rfl,r1,_,_,_,rfl,rfl,SqT.of e1,rfl,_,_,rfl,rfl,big_mul s2.1 s1.2,_,_,rfl,rfl,_,rfl,?_⟩
  refine iteD (fun c=>?_) (fun c=>?_)
  ·refine ⟨_,rfl,k _ _ (Same.refl H) ?_⟩
   show IsW H _ (ofR (rmax p q))
   rw [show rmax p q=q from if_pos ((lt_cross p q).mp c)]
   exact h2
  ·refine ⟨_,rfl,k _ _ (Same.refl H) ?_⟩
   show IsW H _ (ofR (rmax p q))
   rw [show rmax p q=p from if_neg (fun z=>c ((lt_cross p q).mpr z))]
   exact h1
def spLack:Sp:=fun vs H Q _=>∃ (v:V) (p:Rat),vs=[v]∧IsW H v (ofR p)∧∀ v H',Same H H'→IsW H' v (ofR (1 - p))→Q v H'
theorem sc_lacking_to_one:FnScope ["share"] ["share"] (defScope (top 17)):=⟨rfl,rfl,rfl,by decide +kernel,rfl,by decide +kernel,by decide +kernel⟩
theorem d_lacking (D_lowest:Dn P w K mg base 33 "lowest" ["first","second"] spLowest) (F:DefAt K mg "lacking_to_one" (top 17)):Dn P w K mg base 34 "lacking_to_one" ["share"] spLack:=by
 obtain ⟨f,fd,hm,F⟩:=F.ex
 refine ⟨f,fd,hm,F.kp,F.binds fun _ _ _ _ _ _ us hl=>match us,hl with | [_],_=>rfl,?_⟩
 refine F.okN sc_lacking_to_one (fun vs H Q E h=>?_) (fun cdv A outer s H vs Q E hr h=>?_)
 ·obtain ⟨_,_,rfl,_⟩:=h
  rfl
 ·obtain ⟨v,p,rfl,h1,k⟩:=h
  obtain ⟨r1,rfl,e1⟩:=isW_pair h1
  refine ⟨_,(pss_one (ps_ret (pe_callD D_lowest (hr.mono (by decide)) rfl passE0 (pa_cons (hs:=st_BinOp) (pe_op op_sub (pe_ix ix_tup (pv 0) pe_int (fun _ _=>rfl)) (pe_ix ix_tup (pv 0) pe_int (fun _ _=>rfl))) (pa_cons (hs:=st_Subscript) (pe_ix ix_tup (pv 0) pe_int (fun _ _=>rfl)) pa_nil))))),?_⟩
  refine ⟨_,rfl,r1,_,_,_,rfl,rfl,SqT.of e1,rfl,_,rfl,r1,_,_,_,rfl,rfl,SqT.of e1,rfl,_,_,rfl,rfl,?_⟩
  refine ⟨_,rfl,r1,_,_,_,rfl,rfl,SqT.of e1,rfl,?_⟩
  refine ⟨_,_,rfl,den_pos p,fun v H' s' hv=>k v H' s' ?_⟩
  rw [lack_shareW] at hv
  exact hv
theorem cpow_nat {r b:Nat} (h:r < 2 ^ 12) (hb:b≤12):CPow (r:Int) (b:Int):=by
 have:(2:Nat) ^ 12 < 2 ^ 64:=by decide
 exact ⟨by omega,by omega,by rw [Int.natAbs_natCast]; omega⟩
theorem cpow_one {b:Nat} (hb:b≤12):CPow 1 (b:Int):=⟨by omega,by omega,by decide⟩
def spRaised:Sp:=fun vs H Q _=>∃ r b m:Nat,vs=[.int r,.int b,.int m]∧r < 2 ^ 12∧b≤12∧m≤12∧Q (.int (raisedN m r b:Nat)) H
theorem sc_raised:FnScope ["rests","by","m","pushed"] ["rests","by","m"] (defScope (top 22)):=⟨rfl,rfl,rfl,by decide +kernel,rfl,by decide +kernel,by decide +kernel⟩
theorem d_raised (F:DefAt K mg "raised" (top 22)):Dn P w K mg base 1 "raised" ["rests","by","m"] spRaised:=by
 obtain ⟨f,fd,hm,F⟩:=F.ex
 refine ⟨f,fd,hm,F.kp,F.binds fun _ _ _ _ _ _ us hl=>match us,hl with | [_,_,_],_=>rfl,?_⟩
 refine F.okN sc_raised (fun vs H Q E h=>?_) (fun cdv A outer s H vs Q E hr h=>?_)
 ·obtain ⟨_,_,_,rfl,_⟩:=h
  rfl
 ·obtain ⟨r,b,m,rfl,h1,h2,h3,q⟩:=h
  refine ⟨_,(pss_cons (ps_set (i:=3) sc_raised.nd rfl (Or.inl rfl) (pe_op op_shl (pv 0) (pv 1)))
   (pss_one (ps_ret (pe_op op_or (pe_op op_and (pv 3) (pe_op op_sub (pe_op op_shl pe_int (pv 2)) pe_int)) (pe_op op_shr (pv 3) (pv 2)))))),?_⟩
  refine ⟨_,rfl,_,rfl,_,_,rfl,rfl,cpow_nat h1 h2,?_⟩
  refine ⟨_,rfl,_,rfl,_,_,rfl,rfl,cpow_one h3,_,_,rfl,rfl,_,_,rfl,rfl,_,rfl,_,rfl,_,_,rfl,rfl,Int.natCast_nonneg m,_,_,rfl,rfl,?_⟩
  dsimp only
  rw [mask_nat,shl_nat,bitAnd_nat,shr_nat,bitOr_nat]
  exact q
end
end K15
namespace K15
open PySem L2 Ws
seal PE PT PW PA PC PS PSs PG PGs PI PO
section
variable {P : Program} {w : World} {K : W.Frag} {mg : Str → Option Value} {base : Heap} {a : Adr}
def spZero (a:Adr) (kd:Kd):Sp:=fun vs H Q _=>∃ (p:Addr) (ok:KdOk kd),vs=[.ref p]∧KindAt a H p kd∧∀ v H',Same H H'→IsW H' v (enc kd (ks kd ok).zero)→Q v H'
def spOne (a:Adr) (kd:Kd):Sp:=fun vs H Q _=>∃ (p:Addr) (ok:KdOk kd),vs=[.ref p]∧KindAt a H p kd∧∀ v H',Same H H'→IsW H' v (enc kd (ks kd ok).one)→Q v H'
theorem sc_Fewest_none:FnScope ["self"] ["self"] (defScope (inClass (top 24) 0)):=⟨rfl,rfl,rfl,by decide +kernel,rfl,by decide +kernel,by decide +kernel⟩
theorem sc_Widest_none:FnScope ["self"] ["self"] (defScope (inClass (top 25) 0)):=⟨rfl,rfl,rfl,by decide +kernel,rfl,by decide +kernel,by decide +kernel⟩
theorem sc_Counted_none:FnScope ["self"] ["self"] (defScope (inClass (top 26) 0)):=⟨rfl,rfl,rfl,by decide +kernel,rfl,by decide +kernel,by decide +kernel⟩
theorem sc_Likeliest_none:FnScope ["self"] ["self"] (defScope (inClass (top 27) 0)):=⟨rfl,rfl,rfl,by decide +kernel,rfl,by decide +kernel,by decide +kernel⟩
theorem sc_Chances_none:FnScope ["self"] ["self"] (defScope (inClass (top 28) 0)):=⟨rfl,rfl,rfl,by decide +kernel,rfl,by decide +kernel,by decide +kernel⟩
theorem sc_Musts_none:FnScope ["self"] ["self"] (defScope (inClass (top 29) 0)):=⟨rfl,rfl,rfl,by decide +kernel,rfl,by decide +kernel,by decide +kernel⟩
theorem sc_Rests_none:FnScope ["self"] ["self"] (defScope (inClass (top 30) 1)):=⟨rfl,rfl,rfl,by decide +kernel,rfl,by decide +kernel,by decide +kernel⟩
structure At_none (K:W.Frag) (a:Adr):Prop where
 fFewest:MthAt K a.cFewest "none" "Fewest.none" (inClass (top 24) 0)
 fWidest:MthAt K a.cWidest "none" "Widest.none" (inClass (top 25) 0)
 fCounted:MthAt K a.cCounted "none" "Counted.none" (inClass (top 26) 0)
 fLikeliest:MthAt K a.cLikeliest "none" "Likeliest.none" (inClass (top 27) 0)
 fChances:MthAt K a.cChances "none" "Chances.none" (inClass (top 28) 0)
 fMusts:MthAt K a.cMusts "none" "Musts.none" (inClass (top 29) 0)
 fRests:MthAt K a.cRests "none" "Rests.none" (inClass (top 30) 1)
theorem sc_Fewest_rest:FnScope ["self"] ["self"] (defScope (inClass (top 24) 1)):=⟨rfl,rfl,rfl,by decide +kernel,rfl,by decide +kernel,by decide +kernel⟩
theorem sc_Widest_rest:FnScope ["self"] ["self"] (defScope (inClass (top 25) 1)):=⟨rfl,rfl,rfl,by decide +kernel,rfl,by decide +kernel,by decide +kernel⟩
theorem sc_Counted_rest:FnScope ["self"] ["self"] (defScope (inClass (top 26) 1)):=⟨rfl,rfl,rfl,by decide +kernel,rfl,by decide +kernel,by decide +kernel⟩
theorem sc_Likeliest_rest:FnScope ["self"] ["self"] (defScope (inClass (top 27) 1)):=⟨rfl,rfl,rfl,by decide +kernel,rfl,by decide +kernel,by decide +kernel⟩
theorem sc_Chances_rest:FnScope ["self"] ["self"] (defScope (inClass (top 28) 1)):=⟨rfl,rfl,rfl,by decide +kernel,rfl,by decide +kernel,by decide +kernel⟩
theorem sc_Musts_rest:FnScope ["self"] ["self"] (defScope (inClass (top 29) 1)):=⟨rfl,rfl,rfl,by decide +kernel,rfl,by decide +kernel,by decide +kernel⟩
theorem sc_Rests_rest:FnScope ["self"] ["self"] (defScope (inClass (top 30) 2)):=⟨rfl,rfl,rfl,by decide +kernel,rfl,by decide +kernel,by decide +kernel⟩
structure At_rest (K:W.Frag) (a:Adr):Prop where
 fFewest:MthAt K a.cFewest "rest" "Fewest.rest" (inClass (top 24) 1)
 fWidest:MthAt K a.cWidest "rest" "Widest.rest" (inClass (top 25) 1)
 fCounted:MthAt K a.cCounted "rest" "Counted.rest" (inClass (top 26) 1)
 fLikeliest:MthAt K a.cLikeliest "rest" "Likeliest.rest" (inClass (top 27) 1)
 fChances:MthAt K a.cChances "rest" "Chances.rest" (inClass (top 28) 1)
 fMusts:MthAt K a.cMusts "rest" "Musts.rest" (inClass (top 29) 1)
 fRests:MthAt K a.cRests "rest" "Rests.rest" (inClass (top 30) 2)
theorem len_zero {kd:Kd} {vs:List V} {H:Hp} {Q:VK} {E:XK} (h:spZero a kd vs H Q E):vs.length=1:=by
 obtain ⟨_,_,rfl,_⟩:=h
 rfl
theorem len_one {kd:Kd} {vs:List V} {H:Hp} {Q:VK} {E:XK} (h:spOne a kd vs H Q E):vs.length=1:=by
 obtain ⟨_,_,rfl,_⟩:=h
 rfl
theorem v_none (T:Tx K mg a) (F:At_none K a):Mth P w K mg base 1 a.cl "none" ["self"] (fun i=>spZero a i.1):=by
 refine ⟨fun ⟨kd,hk⟩=>?_⟩
 cases kd with
 | fewest =>
  refine m_of hk T F.fFewest (fun _ _ _ _ _ _ us hl=>match us,hl with | [_],_=>rfl) fun f fd F=>F.okN sc_Fewest_none (fun _ _ _ _=>len_zero) (fun cdv A outer s H vs Q E hr h=>?_)
  obtain ⟨p,ok,rfl,_,q⟩:=h
  exact ⟨_,(pss_one (ps_ret pe_non)),q _ _ (Same.refl H) True.intro⟩
 | widest =>
  refine m_of hk T F.fWidest (fun _ _ _ _ _ _ us hl=>match us,hl with | [_],_=>rfl) fun f fd F=>F.okN sc_Widest_none (fun _ _ _ _=>len_zero) (fun cdv A outer s H vs Q E hr h=>?_)
  obtain ⟨p,ok,rfl,_,q⟩:=h
  exact ⟨_,(pss_one (ps_ret pe_int)),q _ _ (Same.refl H) rfl⟩
 | counted =>
  refine m_of hk T F.fCounted (fun _ _ _ _ _ _ us hl=>match us,hl with | [_],_=>rfl) fun f fd F=>F.okN sc_Counted_none (fun _ _ _ _=>len_zero) (fun cdv A outer s H vs Q E hr h=>?_)
  obtain ⟨p,ok,rfl,_,q⟩:=h
  exact ⟨_,(pss_one (ps_ret pe_int)),q _ _ (Same.refl H) rfl⟩
 | likeliest =>
  refine m_of hk T F.fLikeliest (fun _ _ _ _ _ _ us hl=>match us,hl with | [_],_=>rfl) fun f fd F=>F.okN sc_Likeliest_none (fun _ _ _ _=>len_zero) (fun cdv A outer s H vs Q E hr h=>?_)
  obtain ⟨p,ok,rfl,_,q⟩:=h
  exact ⟨_,(pss_one (ps_ret (pe_tup (pa_cons (hs:=st_Constant) pe_int (pa_cons (hs:=st_Constant) pe_int pa_nil))))),⟨(by show 2≤sizeLine; decide),fun p np=>q (.ref p) _ (same_one np) upd_same⟩⟩
 | chances =>
  refine m_of hk T F.fChances (fun _ _ _ _ _ _ us hl=>match us,hl with | [_],_=>rfl) fun f fd F=>F.okN sc_Chances_none (fun _ _ _ _=>len_zero) (fun cdv A outer s H vs Q E hr h=>?_)
  obtain ⟨p,ok,rfl,_,q⟩:=h
  exact ⟨_,(pss_one (ps_ret (pe_tup (pa_cons (hs:=st_Constant) pe_int (pa_cons (hs:=st_Constant) pe_int pa_nil))))),⟨(by show 2≤sizeLine; decide),fun p np=>q (.ref p) _ (same_one np) upd_same⟩⟩
 | musts =>
  refine m_of hk T F.fMusts (fun _ _ _ _ _ _ us hl=>match us,hl with | [_],_=>rfl) fun f fd F=>F.okN sc_Musts_none (fun _ _ _ _=>len_zero) (fun cdv A outer s H vs Q E hr h=>?_)
  obtain ⟨p,ok,rfl,_,q⟩:=h
  exact ⟨_,(pss_one (ps_ret pe_non)),q _ _ (Same.refl H) True.intro⟩
 | rests m =>
  refine m_of (kd:=.rests m) hk T F.fRests (fun _ _ _ _ _ _ us hl=>match us,hl with | [_],_=>rfl) fun f fd F=>F.okN sc_Rests_none (fun _ _ _ _=>len_zero) (fun cdv A outer s H vs Q E hr h=>?_)
  obtain ⟨p,ok,rfl,_,q⟩:=h
  exact ⟨_,(pss_one (ps_ret pe_int)),q _ _ (Same.refl H) rfl⟩
theorem v_rest (T:Tx K mg a) (F:At_rest K a):Mth P w K mg base 1 a.cl "rest" ["self"] (fun i=>spOne a i.1):=by
 refine ⟨fun ⟨kd,hk⟩=>?_⟩
 cases kd with
 | fewest =>
  refine m_of hk T F.fFewest (fun _ _ _ _ _ _ us hl=>match us,hl with | [_],_=>rfl) fun f fd F=>F.okN sc_Fewest_rest (fun _ _ _ _=>len_one) (fun cdv A outer s H vs Q E hr h=>?_)
  obtain ⟨p,ok,rfl,_,q⟩:=h
  exact ⟨_,(pss_one (ps_ret pe_int)),q _ _ (Same.refl H) rfl⟩
 | widest =>
  refine m_of hk T F.fWidest (fun _ _ _ _ _ _ us hl=>match us,hl with | [_],_=>rfl) fun f fd F=>F.okN sc_Widest_rest (fun _ _ _ _=>len_one) (fun cdv A outer s H vs Q E hr h=>?_)
  obtain ⟨p,ok,rfl,_,q⟩:=h
  exact ⟨_,(pss_one (ps_ret (pe_glob (v:=V.int 1000000000) rfl T.c_WIDEST ⟨_,rfl⟩))),q _ _ (Same.refl H) rfl⟩
 | counted =>
  refine m_of hk T F.fCounted (fun _ _ _ _ _ _ us hl=>match us,hl with | [_],_=>rfl) fun f fd F=>F.okN sc_Counted_rest (fun _ _ _ _=>len_one) (fun cdv A outer s H vs Q E hr h=>?_)
  obtain ⟨p,ok,rfl,_,q⟩:=h
  exact ⟨_,(pss_one (ps_ret pe_int)),q _ _ (Same.refl H) rfl⟩
 | likeliest =>
  refine m_of hk T F.fLikeliest (fun _ _ _ _ _ _ us hl=>match us,hl with | [_],_=>rfl) fun f fd F=>F.okN sc_Likeliest_rest (fun _ _ _ _=>len_one) (fun cdv A outer s H vs Q E hr h=>?_)
  obtain ⟨p,ok,rfl,_,q⟩:=h
  exact ⟨_,(pss_one (ps_ret (pe_tup (pa_cons (hs:=st_Constant) pe_int (pa_cons (hs:=st_Constant) pe_int pa_nil))))),⟨(by show 2≤sizeLine; decide),fun p np=>q (.ref p) _ (same_one np) upd_same⟩⟩
 | chances =>
  refine m_of hk T F.fChances (fun _ _ _ _ _ _ us hl=>match us,hl with | [_],_=>rfl) fun f fd F=>F.okN sc_Chances_rest (fun _ _ _ _=>len_one) (fun cdv A outer s H vs Q E hr h=>?_)
  obtain ⟨p,ok,rfl,_,q⟩:=h
  exact ⟨_,(pss_one (ps_ret (pe_tup (pa_cons (hs:=st_Constant) pe_int (pa_cons (hs:=st_Constant) pe_int pa_nil))))),⟨(by show 2≤sizeLine; decide),fun p np=>q (.ref p) _ (same_one np) upd_same⟩⟩
 | musts =>
  refine m_of hk T F.fMusts (fun _ _ _ _ _ _ us hl=>match us,hl with | [_],_=>rfl) fun f fd F=>F.okN sc_Musts_rest (fun _ _ _ _=>len_one) (fun cdv A outer s H vs Q E hr h=>?_)
  obtain ⟨p,ok,rfl,_,q⟩:=h
  exact ⟨_,(pss_one (ps_ret pe_int)),q _ _ (Same.refl H) rfl⟩
 | rests m =>
  refine m_of (kd:=.rests m) hk T F.fRests (fun _ _ _ _ _ _ us hl=>match us,hl with | [_],_=>rfl) fun f fd F=>F.okN sc_Rests_rest (fun _ _ _ _=>len_one) (fun cdv A outer s H vs Q E hr h=>?_)
  obtain ⟨p,ok,rfl,_,q⟩:=h
  exact ⟨_,(pss_one (ps_ret pe_int)),q _ _ (Same.refl H) rfl⟩
def spAdd (a:Adr) (kd:Kd):Sp:=fun vs H Q _=>∃ (p:Addr) (v1 v2:V) (ok:KdOk kd) (x y:Car kd),vs=[.ref p,v1,v2]∧KindAt a H p kd∧IsW H v1 (enc kd x)∧IsW H v2 (enc kd y)∧Sm Big (enc kd x)∧Sm Big (enc kd y) ∧
 ∀ v H',Same H H'→IsW H' v (enc kd ((ks kd ok).add x y))→Q v H'
def spMul (a:Adr) (kd:Kd):Sp:=fun vs H Q _=>∃ (p:Addr) (v1 v2:V) (ok:KdOk kd) (x y:Car kd),vs=[.ref p,v1,v2]∧KindAt a H p kd∧IsW H v1 (enc kd x)∧IsW H v2 (enc kd y)∧Sm Big (enc kd x)∧Sm Big (enc kd y) ∧
 ∀ v H',Same H H'→IsW H' v (enc kd ((ks kd ok).mul x y))→Q v H'
theorem len_add {kd:Kd} {vs:List V} {H:Hp} {Q:VK} {E:XK} (h:spAdd a kd vs H Q E):vs.length=3:=by
 obtain ⟨_,_,_,_,_,_,rfl,_⟩:=h
 rfl
theorem len_mul {kd:Kd} {vs:List V} {H:Hp} {Q:VK} {E:XK} (h:spMul a kd vs H Q E):vs.length=3:=by
 obtain ⟨_,_,_,_,_,_,rfl,_⟩:=h
 rfl
theorem sc_Fewest_together:FnScope ["self","one","other"] ["self","one","other"] (defScope (inClass (top 24) 3)):=⟨rfl,rfl,rfl,by decide +kernel,rfl,by decide +kernel,by decide +kernel⟩
theorem sc_Widest_together:FnScope ["self","one","other"] ["self","one","other"] (defScope (inClass (top 25) 3)):=⟨rfl,rfl,rfl,by decide +kernel,rfl,by decide +kernel,by decide +kernel⟩
theorem sc_Counted_together:FnScope ["self","one","other"] ["self","one","other"] (defScope (inClass (top 26) 3)):=⟨rfl,rfl,rfl,by decide +kernel,rfl,by decide +kernel,by decide +kernel⟩
theorem sc_Likeliest_together:FnScope ["self","one","other"] ["self","one","other"] (defScope (inClass (top 27) 3)):=⟨rfl,rfl,rfl,by decide +kernel,rfl,by decide +kernel,by decide +kernel⟩
theorem sc_Chances_together:FnScope ["self","one","other"] ["self","one","other"] (defScope (inClass (top 28) 3)):=⟨rfl,rfl,rfl,by decide +kernel,rfl,by decide +kernel,by decide +kernel⟩
theorem sc_Musts_together:FnScope ["self","one","other"] ["self","one","other"] (defScope (inClass (top 29) 3)):=⟨rfl,rfl,rfl,by decide +kernel,rfl,by decide +kernel,by decide +kernel⟩
theorem sc_Rests_together:FnScope ["self","one","other"] ["self","one","other"] (defScope (inClass (top 30) 4)):=⟨rfl,rfl,rfl,by decide +kernel,rfl,by decide +kernel,by decide +kernel⟩
structure At_together (K:W.Frag) (a:Adr):Prop where
 fFewest:MthAt K a.cFewest "together" "Fewest.together" (inClass (top 24) 3)
 fWidest:MthAt K a.cWidest "together" "Widest.together" (inClass (top 25) 3)
 fCounted:MthAt K a.cCounted "together" "Counted.together" (inClass (top 26) 3)
 fLikeliest:MthAt K a.cLikeliest "together" "Likeliest.together" (inClass (top 27) 3)
 fChances:MthAt K a.cChances "together" "Chances.together" (inClass (top 28) 3)
 fMusts:MthAt K a.cMusts "together" "Musts.together" (inClass (top 29) 3)
 fRests:MthAt K a.cRests "together" "Rests.together" (inClass (top 30) 4)
theorem sc_Fewest_behind:FnScope ["self","one","other"] ["self","one","other"] (defScope (inClass (top 24) 4)):=⟨rfl,rfl,rfl,by decide +kernel,rfl,by decide +kernel,by decide +kernel⟩
theorem sc_Widest_behind:FnScope ["self","one","other"] ["self","one","other"] (defScope (inClass (top 25) 4)):=⟨rfl,rfl,rfl,by decide +kernel,rfl,by decide +kernel,by decide +kernel⟩
theorem sc_Counted_behind:FnScope ["self","one","other"] ["self","one","other"] (defScope (inClass (top 26) 4)):=⟨rfl,rfl,rfl,by decide +kernel,rfl,by decide +kernel,by decide +kernel⟩
theorem sc_Likeliest_behind:FnScope ["self","one","other"] ["self","one","other"] (defScope (inClass (top 27) 4)):=⟨rfl,rfl,rfl,by decide +kernel,rfl,by decide +kernel,by decide +kernel⟩
theorem sc_Chances_behind:FnScope ["self","one","other"] ["self","one","other"] (defScope (inClass (top 28) 4)):=⟨rfl,rfl,rfl,by decide +kernel,rfl,by decide +kernel,by decide +kernel⟩
theorem sc_Musts_behind:FnScope ["self","one","other"] ["self","one","other"] (defScope (inClass (top 29) 4)):=⟨rfl,rfl,rfl,by decide +kernel,rfl,by decide +kernel,by decide +kernel⟩
theorem sc_Rests_behind:FnScope ["self","one","other","sums","by"] ["self","one","other"] (defScope (inClass (top 30) 5)):=⟨rfl,rfl,rfl,by decide +kernel,rfl,by decide +kernel,by decide +kernel⟩
structure At_behind (K:W.Frag) (a:Adr):Prop where
 fFewest:MthAt K a.cFewest "behind" "Fewest.behind" (inClass (top 24) 4)
 fWidest:MthAt K a.cWidest "behind" "Widest.behind" (inClass (top 25) 4)
 fCounted:MthAt K a.cCounted "behind" "Counted.behind" (inClass (top 26) 4)
 fLikeliest:MthAt K a.cLikeliest "behind" "Likeliest.behind" (inClass (top 27) 4)
 fChances:MthAt K a.cChances "behind" "Chances.behind" (inClass (top 28) 4)
 fMusts:MthAt K a.cMusts "behind" "Musts.behind" (inClass (top 29) 4)
 fRests:MthAt K a.cRests "behind" "Rests.behind" (inClass (top 30) 5)
theorem min_if (i j:Nat):(if (j:Int) < i then (j:Int) else i)=((min i j:Nat):Int):=by split <;> omega
theorem max_if (i j:Nat):(if (j:Int) > i then (j:Int) else i)=((max i j:Nat):Int):=by split <;> omega
theorem v_together (T:Tx K mg a) (D_greater:Dn P w K mg base 1 "greater" ["one","other"] (spTwo rmax)) (D_added:Dn P w K mg base 34 "added" ["one","other"] (spTwo fun p q=>p + q)) (F:At_together K a) :
  Mth P w K mg base 35 a.cl "together" ["self","one","other"] (fun i=>spAdd a i.1):=by
 refine ⟨fun ⟨kd,hk⟩=>?_⟩
 cases kd with
 | fewest =>
  refine m_of hk T F.fFewest (fun _ _ _ _ _ _ us hl=>match us,hl with | [_,_,_],_=>rfl) fun f fd F=>F.okN sc_Fewest_together (fun _ _ _ _=>len_add) (fun cdv A outer s H vs Q E hr h=>?_)
  obtain ⟨p,v1,v2,ok,x,y,rfl,_,h1,h2,s1,s2,q⟩:=h
  refine ⟨_,(pss_cons (ps_if (pt_cmp (pc_isN (pv 1))) (pss_one (ps_ret (pv 2))) pss_nil)
   (pss_cons (ps_if (pt_cmp (pc_isN (pv 2))) (pss_one (ps_ret (pv 1))) pss_nil)
   (pss_one (ps_ret (pe_callB (call_min2 rfl) rfl T.b_min bt_min (pa_cons (hs:=st_Name) (pv 1) (pa_cons (hs:=st_Name) (pv 2) pa_nil))))))),?_⟩
  rcases x with _ | i
  ·obtain rfl:=isW_non h1
   exact ⟨_,rfl,_,rfl,iteT ⟨_,rfl,q _ _ (Same.refl H) (by cases y <;> exact h2)⟩⟩
  ·obtain rfl:=isW_int h1
   refine ⟨_,rfl,_,rfl,iteF ?_⟩
   rcases y with _ | j
   ·obtain rfl:=isW_non h2
    exact ⟨_,rfl,_,rfl,iteT ⟨_,rfl,q _ _ (Same.refl H) rfl⟩⟩
   ·obtain rfl:=isW_int h2
    exact ⟨_,rfl,_,rfl,iteF ⟨_,rfl,_,rfl,_,_,rfl,q _ _ (Same.refl H) (min_if i j)⟩⟩
 | widest =>
  refine m_of hk T F.fWidest (fun _ _ _ _ _ _ us hl=>match us,hl with | [_,_,_],_=>rfl) fun f fd F=>F.okN sc_Widest_together (fun _ _ _ _=>len_add) (fun cdv A outer s H vs Q E hr h=>?_)
  obtain ⟨p,v1,v2,ok,x,y,rfl,_,h1,h2,s1,s2,q⟩:=h
  refine ⟨_,(pss_one (ps_ret (pe_callB (call_max2 rfl) rfl T.b_max bt_max (pa_cons (hs:=st_Name) (pv 1) (pa_cons (hs:=st_Name) (pv 2) pa_nil))))),?_⟩
  obtain rfl:=isW_int h1
  obtain rfl:=isW_int h2
  exact ⟨_,rfl,_,rfl,_,_,rfl,q _ _ (Same.refl H) (max_if x.1 y.1)⟩
 | counted =>
  refine m_of hk T F.fCounted (fun _ _ _ _ _ _ us hl=>match us,hl with | [_,_,_],_=>rfl) fun f fd F=>F.okN sc_Counted_together (fun _ _ _ _=>len_add) (fun cdv A outer s H vs Q E hr h=>?_)
  obtain ⟨p,v1,v2,ok,x,y,rfl,_,h1,h2,s1,s2,q⟩:=h
  refine ⟨_,(pss_cons (ps_if (PW.pt (pw_or (pt_cmpR op_eq (pv 1) (pe_un un_neg pe_int) (nomark _)) (pw_or1 (pt_cmpR op_eq (pv 2) (pe_un un_neg pe_int) (nomark _))))) (pss_one (ps_ret (pe_un un_neg pe_int))) pss_nil)
   (pss_one (ps_ret (pe_op op_add (pv 1) (pv 2))))),?_⟩
  rcases x with _ | i
  ·obtain rfl:=isW_int h1
   exact ⟨_,rfl,_,rfl,rfl,_,rfl,iteT (iteT ⟨_,rfl,q _ _ (Same.refl H) (by cases y <;> rfl)⟩)⟩
  ·obtain rfl:=isW_int h1
   refine ⟨_,rfl,_,rfl,rfl,_,rfl,iteEqI (fun z=>by omega) (fun _=>?_)⟩
   rcases y with _ | j
   ·obtain rfl:=isW_int h2
    exact ⟨_,rfl,_,rfl,rfl,_,rfl,iteT ⟨_,rfl,q _ _ (Same.refl H) rfl⟩⟩
   ·obtain rfl:=isW_int h2
    refine ⟨_,rfl,_,rfl,rfl,_,rfl,iteEqI (fun z=>by omega) (fun _=>?_)⟩
    exact ⟨_,rfl,_,rfl,_,_,rfl,rfl,q _ _ (Same.refl H) (by show (i:Int) + j=((i + j:Nat):Int); omega)⟩
 | likeliest =>
  refine m_of hk T F.fLikeliest (fun _ _ _ _ _ _ us hl=>match us,hl with | [_,_,_],_=>rfl) fun f fd F=>F.okN sc_Likeliest_together (fun _ _ _ _=>len_add) (fun cdv A outer s H vs Q E hr h=>?_)
  obtain ⟨p,v1,v2,ok,x,y,rfl,_,h1,h2,s1,s2,q⟩:=h
  exact ⟨_,(pss_one (ps_ret (pe_callD D_greater (hr.mono (by decide)) rfl passE0 (pa_cons (hs:=st_Name) (pv 1) (pa_cons (hs:=st_Name) (pv 2) pa_nil))))),⟨_,rfl,_,rfl,v1,v2,x.1,y.1,rfl,h1,h2,s1,s2,fun v H' s' hv=>q v H' s' hv⟩⟩
 | chances =>
  refine m_of hk T F.fChances (fun _ _ _ _ _ _ us hl=>match us,hl with | [_,_,_],_=>rfl) fun f fd F=>F.okN sc_Chances_together (fun _ _ _ _=>len_add) (fun cdv A outer s H vs Q E hr h=>?_)
  obtain ⟨p,v1,v2,ok,x,y,rfl,_,h1,h2,s1,s2,q⟩:=h
  exact ⟨_,(pss_one (ps_ret (pe_callD D_added (hr.mono (by decide)) rfl passE0 (pa_cons (hs:=st_Name) (pv 1) (pa_cons (hs:=st_Name) (pv 2) pa_nil))))),⟨_,rfl,_,rfl,v1,v2,x.1,y.1,rfl,h1,h2,s1,s2,fun v H' s' hv=>q v H' s' hv⟩⟩
 | musts =>
  refine m_of hk T F.fMusts (fun _ _ _ _ _ _ us hl=>match us,hl with | [_,_,_],_=>rfl) fun f fd F=>F.okN sc_Musts_together (fun _ _ _ _=>len_add) (fun cdv A outer s H vs Q E hr h=>?_)
  obtain ⟨p,v1,v2,ok,x,y,rfl,_,h1,h2,s1,s2,q⟩:=h
  refine ⟨_,(pss_cons (ps_if (pt_cmp (pc_isN (pv 1))) (pss_one (ps_ret (pv 2))) pss_nil)
   (pss_cons (ps_if (pt_cmp (pc_isN (pv 2))) (pss_one (ps_ret (pv 1))) pss_nil)
   (pss_one (ps_ret (pe_op op_and (pv 1) (pv 2)))))),?_⟩
  rcases x with _ | i
  ·obtain rfl:=isW_non h1
   exact ⟨_,rfl,_,rfl,iteT ⟨_,rfl,q _ _ (Same.refl H) (by cases y <;> exact h2)⟩⟩
  ·obtain rfl:=isW_int h1
   refine ⟨_,rfl,_,rfl,iteF ?_⟩
   rcases y with _ | j
   ·obtain rfl:=isW_non h2
    exact ⟨_,rfl,_,rfl,iteT ⟨_,rfl,q _ _ (Same.refl H) rfl⟩⟩
   ·obtain rfl:=isW_int h2
    exact ⟨_,rfl,_,rfl,iteF ⟨_,rfl,_,rfl,_,_,rfl,rfl,q _ _ (Same.refl H) (bitAnd_nat i j)⟩⟩
 | rests m =>
  refine m_of (kd:=.rests m) hk T F.fRests (fun _ _ _ _ _ _ us hl=>match us,hl with | [_,_,_],_=>rfl) fun f fd F=>F.okN sc_Rests_together (fun _ _ _ _=>len_add) (fun cdv A outer s H vs Q E hr h=>?_)
  obtain ⟨p,v1,v2,ok,x,y,rfl,_,h1,h2,s1,s2,q⟩:=h
  obtain rfl:=isW_int h1
  obtain rfl:=isW_int h2
  exact ⟨_,(pss_one (ps_ret (pe_op op_or (pv 1) (pv 2)))),⟨_,rfl,_,rfl,_,_,rfl,rfl,q _ _ (Same.refl H) (bitOr_nat x.1 y.1)⟩⟩
theorem pow12 {m n:Nat} (h:m≤12) (hn:n < 2 ^ m):n < 2 ^ 12:=Nat.lt_of_lt_of_le hn (Nat.pow_le_pow_right (by decide) h)
theorem v_behind (T:Tx K mg a) (D_multiplied:Dn P w K mg base 34 "multiplied" ["one","other"] (spTwo fun p q=>p * q)) (D_raised:Dn P w K mg base 1 "raised" ["rests","by","m"] spRaised) (F:At_behind K a) :
  Mth P w K mg base 35 a.cl "behind" ["self","one","other"] (fun i=>spMul a i.1):=by
 refine ⟨fun ⟨kd,hk⟩=>?_⟩
 cases kd with
 | fewest =>
  refine m_of hk T F.fFewest (fun _ _ _ _ _ _ us hl=>match us,hl with | [_,_,_],_=>rfl) fun f fd F=>F.okN sc_Fewest_behind (fun _ _ _ _=>len_mul) (fun cdv A outer s H vs Q E hr h=>?_)
  obtain ⟨p,v1,v2,ok,x,y,rfl,_,h1,h2,s1,s2,q⟩:=h
  refine ⟨_,(pss_cons (ps_if (PW.pt (pw_or (pt_cmp (pc_isN (pv 1))) (pw_or1 (pt_cmp (pc_isN (pv 2)))))) (pss_one (ps_ret pe_non)) pss_nil)
   (pss_one (ps_ret (pe_op op_add (pv 1) (pv 2))))),?_⟩
  rcases x with _ | i
  ·obtain rfl:=isW_non h1
   exact ⟨_,rfl,_,rfl,iteT (iteT (q _ _ (Same.refl H) True.intro))⟩
  ·obtain rfl:=isW_int h1
   refine ⟨_,rfl,_,rfl,iteF ?_⟩
   rcases y with _ | j
   ·obtain rfl:=isW_non h2
    exact ⟨_,rfl,_,rfl,iteT (q _ _ (Same.refl H) True.intro)⟩
   ·obtain rfl:=isW_int h2
    exact ⟨_,rfl,_,rfl,iteF ⟨_,rfl,_,rfl,_,_,rfl,rfl,q _ _ (Same.refl H) (by show (i:Int) + j=((i + j:Nat):Int); omega)⟩⟩
 | widest =>
  refine m_of hk T F.fWidest (fun _ _ _ _ _ _ us hl=>match us,hl with | [_,_,_],_=>rfl) fun f fd F=>F.okN sc_Widest_behind (fun _ _ _ _=>len_mul) (fun cdv A outer s H vs Q E hr h=>?_)
  obtain ⟨p,v1,v2,ok,x,y,rfl,_,h1,h2,s1,s2,q⟩:=h
  refine ⟨_,(pss_one (ps_ret (pe_callB (call_min2 rfl) rfl T.b_min bt_min (pa_cons (hs:=st_Name) (pv 1) (pa_cons (hs:=st_Name) (pv 2) pa_nil))))),?_⟩
  obtain rfl:=isW_int h1
  obtain rfl:=isW_int h2
  exact ⟨_,rfl,_,rfl,_,_,rfl,q _ _ (Same.refl H) (min_if x.1 y.1)⟩
 | counted =>
  refine m_of hk T F.fCounted (fun _ _ _ _ _ _ us hl=>match us,hl with | [_,_,_],_=>rfl) fun f fd F=>F.okN sc_Counted_behind (fun _ _ _ _=>len_mul) (fun cdv A outer s H vs Q E hr h=>?_)
  obtain ⟨p,v1,v2,ok,x,y,rfl,_,h1,h2,s1,s2,q⟩:=h
  refine ⟨_,(pss_cons (ps_if (PW.pt (pw_or (pt_cmpR op_eq (pv 1) pe_int (nomark _)) (pw_or1 (pt_cmpR op_eq (pv 2) pe_int (nomark _))))) (pss_one (ps_ret pe_int)) pss_nil)
   (pss_cons (ps_if (PW.pt (pw_or (pt_cmpR op_eq (pv 1) (pe_un un_neg pe_int) (nomark _)) (pw_or1 (pt_cmpR op_eq (pv 2) (pe_un un_neg pe_int) (nomark _))))) (pss_one (ps_ret (pe_un un_neg pe_int))) pss_nil)
   (pss_one (ps_ret (pe_op op_mulX (pv 1) (pv 2)))))),?_⟩
  obtain ⟨i,rfl,e1,hx⟩:=counted_is h1
  obtain ⟨j,rfl,e2,hy⟩:=counted_is h2
  rw [e1] at s1
  rw [e2] at s2
  have fin:∀ k:Int,enc .counted (oMul x y)=.int k→Q (.int k) H:=fun k e=>q _ _ (Same.refl H) (by show IsW H _ (enc .counted (oMul x y)); rw [e]; exact rfl)
  refine ⟨_,rfl,rfl,_,rfl,iteEqI (fun z=>?_) (fun zi=>?_)⟩
  ·exact iteT (fin 0 (counted_zero hx z))
  refine ⟨_,rfl,rfl,_,rfl,iteEqI (fun z=>?_) (fun zj=>?_)⟩
  ·exact fin 0 ((congrArg (enc .counted) (oMul_comm x y)).trans (counted_zero hy z))
  refine ⟨_,rfl,_,rfl,rfl,_,rfl,iteEqI (fun z=>?_) (fun z1=>?_)⟩
  ·exact iteT ⟨_,rfl,fin (-1) (counted_endless hx hy zi zj (.inl z))⟩
  refine ⟨_,rfl,_,rfl,rfl,_,rfl,iteEqI (fun z=>?_) (fun z2=>?_)⟩
  ·exact ⟨_,rfl,fin (-1) (counted_endless hx hy zi zj (.inr z))⟩
  ·exact ⟨_,rfl,_,rfl,_,_,rfl,rfl,big_mul s1 s2,fin _ (counted_prod hx hy z1 z2)⟩
 | likeliest =>
  refine m_of hk T F.fLikeliest (fun _ _ _ _ _ _ us hl=>match us,hl with | [_,_,_],_=>rfl) fun f fd F=>F.okN sc_Likeliest_behind (fun _ _ _ _=>len_mul) (fun cdv A outer s H vs Q E hr h=>?_)
  obtain ⟨p,v1,v2,ok,x,y,rfl,_,h1,h2,s1,s2,q⟩:=h
  exact ⟨_,(pss_one (ps_ret (pe_callD D_multiplied (hr.mono (by decide)) rfl passE0 (pa_cons (hs:=st_Name) (pv 1) (pa_cons (hs:=st_Name) (pv 2) pa_nil))))),⟨_,rfl,_,rfl,v1,v2,x.1,y.1,rfl,h1,h2,s1,s2,fun v H' s' hv=>q v H' s' hv⟩⟩
 | chances =>
  refine m_of hk T F.fChances (fun _ _ _ _ _ _ us hl=>match us,hl with | [_,_,_],_=>rfl) fun f fd F=>F.okN sc_Chances_behind (fun _ _ _ _=>len_mul) (fun cdv A outer s H vs Q E hr h=>?_)
  obtain ⟨p,v1,v2,ok,x,y,rfl,_,h1,h2,s1,s2,q⟩:=h
  exact ⟨_,(pss_one (ps_ret (pe_callD D_multiplied (hr.mono (by decide)) rfl passE0 (pa_cons (hs:=st_Name) (pv 1) (pa_cons (hs:=st_Name) (pv 2) pa_nil))))),⟨_,rfl,_,rfl,v1,v2,x.1,y.1,rfl,h1,h2,s1,s2,fun v H' s' hv=>q v H' s' hv⟩⟩
 | musts =>
  refine m_of hk T F.fMusts (fun _ _ _ _ _ _ us hl=>match us,hl with | [_,_,_],_=>rfl) fun f fd F=>F.okN sc_Musts_behind (fun _ _ _ _=>len_mul) (fun cdv A outer s H vs Q E hr h=>?_)
  obtain ⟨p,v1,v2,ok,x,y,rfl,_,h1,h2,s1,s2,q⟩:=h
  refine ⟨_,(pss_cons (ps_if (PW.pt (pw_or (pt_cmp (pc_isN (pv 1))) (pw_or1 (pt_cmp (pc_isN (pv 2)))))) (pss_one (ps_ret pe_non)) pss_nil)
   (pss_one (ps_ret (pe_op op_or (pv 1) (pv 2))))),?_⟩
  rcases x with _ | i
  ·obtain rfl:=isW_non h1
   exact ⟨_,rfl,_,rfl,iteT (iteT (q _ _ (Same.refl H) True.intro))⟩
  ·obtain rfl:=isW_int h1
   refine ⟨_,rfl,_,rfl,iteF ?_⟩
   rcases y with _ | j
   ·obtain rfl:=isW_non h2
    exact ⟨_,rfl,_,rfl,iteT (q _ _ (Same.refl H) True.intro)⟩
   ·obtain rfl:=isW_int h2
    exact ⟨_,rfl,_,rfl,iteF ⟨_,rfl,_,rfl,_,_,rfl,rfl,q _ _ (Same.refl H) (bitOr_nat i j)⟩⟩
 | rests m =>
  refine m_of (kd:=.rests m) hk T F.fRests (fun _ _ _ _ _ _ us hl=>match us,hl with | [_,_,_],_=>rfl) fun f fd F=>F.okN sc_Rests_behind (fun _ _ _ _=>len_mul) (fun cdv A outer s H vs Q E hr h=>?_)
  obtain ⟨p,v1,v2,ok,x,y,rfl,⟨dx,hp⟩,h1,h2,s1,s2,q⟩:=h
  obtain rfl:=isW_int h1
  obtain rfl:=isW_int h2
  have o1:1≤m:=ok.1
  have o2:m≤12:=ok.2
  refine ⟨_,(pss_cons (ps_set (i:=3) sc_Rests_behind.nd rfl (Or.inl rfl) pe_int)
   (pss_cons (ps_for PassesOwn.never rfl (pi_range1 rfl T.b_range (pa_cons (hs:=st_Attribute) (pe_fld (pv 0) rfl) pa_nil)) (pg_name (i:=4) sc_Rests_behind.nd rfl (Or.inl rfl)) (pss_one (ps_if (pt_truth (pe_op op_and (pe_op op_shr (pv 1) (pv 4)) pe_int) (fun _=>rfl)) (pss_one (ps_set (i:=3) sc_Rests_behind.nd rfl (Or.inl rfl) (pe_op op_or (pv 3) (pe_callD D_raised (hr.mono (by decide)) rfl passE0 (pa_cons (hs:=st_Name) (pv 2) (pa_cons (hs:=st_Name) (pv 4) (pa_cons (hs:=st_Attribute) (pe_fld (pv 0) rfl) pa_nil))))))) pss_nil)))
   (pss_one (ps_ret (pv 3))))),?_⟩
  refine ⟨_,rfl,p,_,dx,_,_,rfl,hp,T.cl (.rests m) hk,T.na_Rests_m,rfl,(m:Int),rfl,by omega,by omega,?_⟩
  refine for_range (n:=(m:Int).toNat) (fun i σ H'=>H'=H∧i≤m∧∃ o,σ=[some (.ref p),some (.int x.1),some (.int y.1),some (.int (behTo m x.1 y.1 i:Nat)),o]) ⟨rfl,by omega,none,rfl⟩ ?_ ?_
  ·rintro i σ H' hi ⟨rfl,_,o,rfl⟩
   have hi':i < m:=by omega
   rw [Int.zero_add]
   refine ⟨_,rfl,_,rfl,_,_,rfl,rfl,by omega,_,_,rfl,rfl,_,rfl,?_⟩
   rw [shr_nat,bit_test]
   have e:=behTo_succ m x.1 y.1 i
   refine iteB (fun c=>?_) (fun c=>?_)
   ·rw [if_pos c] at e
    refine ⟨_,rfl,_,rfl,_,rfl,_,rfl,p,_,dx,_,_,rfl,hp,T.cl (.rests m) hk,T.na_Rests_m,rfl,y.1,i,m,rfl,pow12 o2 y.2,by omega,o2,_,_,rfl,rfl,?_⟩
    refine ⟨rfl,by omega,some (V.int (i:Int)),?_⟩
    dsimp only
    rw [bitOr_nat,← e]
    rfl
   ·rw [if_neg (by rw [c]; exact Bool.false_ne_true)] at e
    exact ⟨rfl,by omega,_,by rw [e]; rfl⟩
  ·rintro σ H' ⟨rfl,_,o,rfl⟩
   exact ⟨_,rfl,q _ _ (Same.refl H') (by rw [Int.toNat_natCast]; rfl)⟩
end
end K15
namespace K15
open PySem L2 Ws
seal PE PT PW PA PC PS PSs PG PGs PI PO
section
variable {P : Program} {w : World} {K : W.Frag} {mg : Str → Option Value} {base : Heap} {a : Adr}
def spStar (a:Adr) (kd:Kd):Sp:=fun vs H Q E=>∃ (p:Addr) (v:V) (ok:KdOk kd) (x:Car kd),vs=[.ref p,v]∧KindAt a H p kd∧IsW H v (enc kd x)∧Sm Big (enc kd x) ∧
 (∀ s,(ks kd ok).star x=some s→∀ v' H',Same H H'→IsW H' v' (enc kd s)→Q v' H')∧((ks kd ok).star x=none→∀ H',Same H H'→E (.ref a.cNoSum) none H')
theorem len_star {kd:Kd} {vs:List V} {H:Hp} {Q:VK} {E:XK} (h:spStar a kd vs H Q E):vs.length=2:=by
 obtain ⟨_,_,_,_,rfl,_⟩:=h
 rfl
theorem sm_rests {m n:Nat} (h:m≤12) (hn:n < 2 ^ m):Sm Big (.int (n:Int)):=Nat.le_trans (bits_nat (pow12 h hn)) (by decide)
theorem sc_Kind_rounds:FnScope ["self","one"] ["self","one"] (defScope (inClass (top 23) 5)):=⟨rfl,rfl,rfl,by decide +kernel,rfl,by decide +kernel,by decide +kernel⟩
theorem sc_Counted_rounds:FnScope ["self","one"] ["self","one"] (defScope (inClass (top 26) 5)):=⟨rfl,rfl,rfl,by decide +kernel,rfl,by decide +kernel,by decide +kernel⟩
theorem sc_Chances_rounds:FnScope ["self","one","lacking"] ["self","one"] (defScope (inClass (top 28) 5)):=⟨rfl,rfl,rfl,by decide +kernel,rfl,by decide +kernel,by decide +kernel⟩
theorem sc_Rests_rounds:FnScope ["self","one","reached","longer"] ["self","one"] (defScope (inClass (top 30) 6)):=⟨rfl,rfl,rfl,by decide +kernel,rfl,by decide +kernel,by decide +kernel⟩
structure At_rounds (K:W.Frag) (a:Adr):Prop where
 fFewest:MthAt K a.cFewest "rounds" "Kind.rounds" (inClass (top 23) 5)
 fWidest:MthAt K a.cWidest "rounds" "Kind.rounds" (inClass (top 23) 5)
 fCounted:MthAt K a.cCounted "rounds" "Counted.rounds" (inClass (top 26) 5)
 fLikeliest:MthAt K a.cLikeliest "rounds" "Kind.rounds" (inClass (top 23) 5)
 fChances:MthAt K a.cChances "rounds" "Chances.rounds" (inClass (top 28) 5)
 fMusts:MthAt K a.cMusts "rounds" "Kind.rounds" (inClass (top 23) 5)
 fRests:MthAt K a.cRests "rounds" "Rests.rounds" (inClass (top 30) 6)
theorem v_rounds (T:Tx K mg a) (V_none:Mth P w K mg base 1 a.cl "none" ["self"] (fun i=>spZero a i.1)) (V_rest:Mth P w K mg base 1 a.cl "rest" ["self"] (fun i=>spOne a i.1))
  (V_together:Mth P w K mg base 35 a.cl "together" ["self","one","other"] (fun i=>spAdd a i.1)) (V_behind:Mth P w K mg base 35 a.cl "behind" ["self","one","other"] (fun i=>spMul a i.1))
  (D_lacking_to_one:Dn P w K mg base 34 "lacking_to_one" ["share"] spLack) (F:At_rounds K a):Mth P w K mg base 36 a.cl "rounds" ["self","one"] (fun i=>spStar a i.1):=by
 refine ⟨fun ⟨kd,hk⟩=>?_⟩
 cases kd with
 | fewest =>
  refine m_of hk T F.fFewest (fun _ _ _ _ _ _ us hl=>match us,hl with | [_,_],_=>rfl) fun f fd F=>F.okN sc_Kind_rounds (fun _ _ _ _=>len_star) (fun cdv A outer s H vs Q E hr h=>?_)
  obtain ⟨p,v,ok,x,rfl,⟨dx,hp⟩,h1,s1,q,_⟩:=h
  exact ⟨_,(pss_one (ps_ret (pe_methV0 (pv 0) V_rest (hr.mono (by decide)) passE0))),⟨_,rfl,⟨.fewest,hk⟩,p,dx,_,rfl,hp,kfs_no _ (by decide +kernel),p,ok,rfl,⟨dx,hp⟩,fun v H' s' hv=>q _ rfl v H' s' hv⟩⟩
 | widest =>
  refine m_of hk T F.fWidest (fun _ _ _ _ _ _ us hl=>match us,hl with | [_,_],_=>rfl) fun f fd F=>F.okN sc_Kind_rounds (fun _ _ _ _=>len_star) (fun cdv A outer s H vs Q E hr h=>?_)
  obtain ⟨p,v,ok,x,rfl,⟨dx,hp⟩,h1,s1,q,_⟩:=h
  exact ⟨_,(pss_one (ps_ret (pe_methV0 (pv 0) V_rest (hr.mono (by decide)) passE0))),⟨_,rfl,⟨.widest,hk⟩,p,dx,_,rfl,hp,kfs_no _ (by decide +kernel),p,ok,rfl,⟨dx,hp⟩,fun v H' s' hv=>q _ rfl v H' s' hv⟩⟩
 | counted =>
  refine m_of hk T F.fCounted (fun _ _ _ _ _ _ us hl=>match us,hl with | [_,_],_=>rfl) fun f fd F=>F.okN sc_Counted_rounds (fun _ _ _ _=>len_star) (fun cdv A outer s H vs Q E hr h=>?_)
  obtain ⟨p,v,ok,x,rfl,⟨dx,hp⟩,h1,s1,q,_⟩:=h
  refine ⟨_,(pss_cons (ps_if (pt_cmpR op_eq (pv 1) pe_int (nomark _)) (pss_one (ps_ret pe_int)) pss_nil)
   (pss_one (ps_ret (pe_un un_neg pe_int)))),?_⟩
  rcases x with _ | _ | n
  ·obtain rfl:=isW_int h1
   exact ⟨_,rfl,rfl,_,rfl,iteEqI (fun z=>by omega) (fun _=>⟨_,rfl,q _ rfl _ _ (Same.refl H) rfl⟩)⟩
  ·obtain rfl:=isW_int h1
   exact ⟨_,rfl,rfl,_,rfl,iteEqI (fun _=>q _ rfl _ _ (Same.refl H) rfl) (fun z=>absurd rfl z)⟩
  ·obtain rfl:=isW_int h1
   exact ⟨_,rfl,rfl,_,rfl,iteEqI (fun z=>by omega) (fun _=>⟨_,rfl,q _ rfl _ _ (Same.refl H) rfl⟩)⟩
 | likeliest =>
  refine m_of hk T F.fLikeliest (fun _ _ _ _ _ _ us hl=>match us,hl with | [_,_],_=>rfl) fun f fd F=>F.okN sc_Kind_rounds (fun _ _ _ _=>len_star) (fun cdv A outer s H vs Q E hr h=>?_)
  obtain ⟨p,v,ok,x,rfl,⟨dx,hp⟩,h1,s1,q,_⟩:=h
  exact ⟨_,(pss_one (ps_ret (pe_methV0 (pv 0) V_rest (hr.mono (by decide)) passE0))),⟨_,rfl,⟨.likeliest,hk⟩,p,dx,_,rfl,hp,kfs_no _ (by decide +kernel),p,ok,rfl,⟨dx,hp⟩,fun v H' s' hv=>q _ rfl v H' s' hv⟩⟩
 | chances =>
  refine m_of hk T F.fChances (fun _ _ _ _ _ _ us hl=>match us,hl with | [_,_],_=>rfl) fun f fd F=>F.okX sc_Chances_rounds (fun _ _ _ _=>len_star) (fun cdv A outer s H vs Q E hr h=>?_)
  obtain ⟨p,v,ok,x,rfl,⟨dx,hp⟩,h1,s1,q,e⟩:=h
  refine ⟨_,(pss_cons (ps_set (i:=2) sc_Chances_rounds.nd rfl (Or.inl rfl) (pe_callD D_lacking_to_one (hr.mono (by decide)) rfl pass_cx (pa_cons (hs:=st_Name) (pv 1) pa_nil)))
   (pss_cons (ps_if (pt_cmpR op_le (pe_ix ix_tup (pv 2) pe_int (fun _ _=>rfl)) pe_int (nomark _)) (pss_one (ps_raise T.x_NoSum rfl rfl rais_cx (pa_cons (hs:=st_Constant) pe_str pa_nil))) pss_nil)
   (pss_one (ps_ret (pe_tup (pa_cons (hs:=st_Subscript) (pe_ix ix_tup (pv 2) pe_int (fun _ _=>rfl)) (pa_cons (hs:=st_Subscript) (pe_ix ix_tup (pv 2) pe_int (fun _ _=>rfl)) pa_nil))))))),?_⟩
  refine ⟨_,rfl,v,x.1,rfl,h1,fun v2 H' s' hv=>?_⟩
  obtain ⟨r,rfl,er⟩:=isW_pair hv
  refine ⟨_,rfl,r,_,_,_,rfl,rfl,SqT.of er,rfl,_,_,rfl,rfl,_,rfl,iteD (fun c=>?_) (fun c=>?_)⟩
  ·have lt:¬ x.1 < 1:=fun z=>by
    have:0 < (1 - x.1).num:=num_pos.mpr (by grind)
    omega
   exact ⟨by show 1≤sizeLine; decide,e (chances_ge x lt) H' s'⟩
  ·have pos:0 < (1 - x.1).num:=by omega
   have lt:x.1 < 1:=by have:=num_pos.mp pos; grind
   refine ⟨_,rfl,r,_,_,_,rfl,rfl,SqT.of er,rfl,_,rfl,r,_,_,_,rfl,rfl,SqT.of er,rfl,(by show 2≤sizeLine; decide),fun p2 np=>?_⟩
   refine q ⟨(1 - x.1)⁻¹,rinv_nonneg lt⟩ (chances_lt x lt) _ _ (s'.trans (same_one np)) ?_
   show IsW _ _ (ofR (1 - x.1)⁻¹)
   rw [inv_turn pos]
   exact upd_same
 | musts =>
  refine m_of hk T F.fMusts (fun _ _ _ _ _ _ us hl=>match us,hl with | [_,_],_=>rfl) fun f fd F=>F.okN sc_Kind_rounds (fun _ _ _ _=>len_star) (fun cdv A outer s H vs Q E hr h=>?_)
  obtain ⟨p,v,ok,x,rfl,⟨dx,hp⟩,h1,s1,q,_⟩:=h
  exact ⟨_,(pss_one (ps_ret (pe_methV0 (pv 0) V_rest (hr.mono (by decide)) passE0))),⟨_,rfl,⟨.musts,hk⟩,p,dx,_,rfl,hp,kfs_no _ (by decide +kernel),p,ok,rfl,⟨dx,hp⟩,fun v H' s' hv=>q _ rfl v H' s' hv⟩⟩
 | rests m =>
  refine m_of (kd:=.rests m) hk T F.fRests (fun _ _ _ _ _ _ us hl=>match us,hl with | [_,_],_=>rfl) fun f fd F=>F.okN sc_Rests_rounds (fun _ _ _ _=>len_star) (fun cdv A outer s H vs Q E hr h=>?_)
  obtain ⟨p,v,ok,x,rfl,⟨dx,hp⟩,h1,s1,q,_⟩:=h
  obtain rfl:=isW_int h1
  have o1:1≤m:=ok.1
  have o2:m≤12:=ok.2
  refine ⟨_,(pss_cons (ps_set (i:=2) sc_Rests_rounds.nd rfl (Or.inl rfl) (pe_methV0 (pv 0) V_none (hr.mono (by decide)) passE0))
   (pss_cons (ps_set (i:=3) sc_Rests_rounds.nd rfl (Or.inl rfl) (pe_methV0 (pv 0) V_rest (hr.mono (by decide)) passE0))
   (pss_cons (ps_while PassesOwn.never (pt_cmpR op_ne (pv 3) (pv 2) (nomark _)) (pss_cons (ps_set (i:=2) sc_Rests_rounds.nd rfl (Or.inl rfl) (pv 3))
   (pss_one (ps_set (i:=3) sc_Rests_rounds.nd rfl (Or.inl rfl) (pe_methV (pv 0) V_together (hr.mono (by decide)) passE0 (pa_cons (hs:=st_Name) (pv 2) (pa_cons (hs:=st_Call) (pe_methV (pv 0) V_behind (hr.mono (by decide)) passE0 (pa_cons (hs:=st_Name) (pv 2) (pa_cons (hs:=st_Name) (pv 1) pa_nil))) pa_nil)))))))
   (pss_one (ps_ret (pv 2)))))),?_⟩
  refine ⟨_,rfl,⟨.rests m,hk⟩,p,dx,_,rfl,hp,kfs_no (.rests m) (by decide +kernel),p,ok,rfl,⟨dx,hp⟩,fun v0 H0 s0 hv0=>?_⟩
  obtain rfl:=isW_int hv0
  refine ⟨_,rfl,⟨.rests m,hk⟩,p,dx,_,rfl,s0 _ _ hp,kfs_no (.rests m) (by decide +kernel),p,ok,rfl,⟨dx,s0 _ _ hp⟩,fun v1 H1 s1 hv1=>?_⟩
  obtain rfl:=isW_int hv1
  refine ⟨fun n σ H'=>Same H H'∧∃ k r:Nat,k≤m + 1∧n=m + 1 - k∧σ=[some (.ref p),some (.int x.1),some (.int r),some (.int (rndTo m x.1 k:Nat))]∧((k=0∧r=0)∨∃ j,k=j + 1∧r=rndTo m x.1 j),⟨_,s0.trans s1,0,0,by omega,rfl,rfl,.inl ⟨rfl,rfl⟩⟩,?_⟩
  rintro n σ H' ⟨sH,k,r,hkm,rfl,rfl,hr'⟩
  refine ⟨_,rfl,_,rfl,rfl,_,rfl,iteNeI (fun c=>?_) (fun c=>?_)⟩
  ·have hk1:k≤m:=by
    rcases hr' with ⟨rfl,_⟩ | ⟨j,rfl,rfl⟩
    ·omega
    ·have:¬ m≤j:=fun z=>c (by rw [rndTo_fix o1 x.2 (j + 1) (by omega),rndTo_fix o1 x.2 j z])
     omega
   have lk:=rndTo_lt o1 x.2 k
   refine ⟨fun σ' H'=>_,fun _ _ z=>z,?_⟩
   refine ⟨_,rfl,?_⟩
   refine ⟨_,rfl,⟨.rests m,hk⟩,p,dx,_,rfl,sH _ _ hp,kfs_no (.rests m) (by decide +kernel),_,rfl,?_⟩
   refine ⟨_,rfl,⟨.rests m,hk⟩,p,dx,_,rfl,sH _ _ hp,kfs_no (.rests m) (by decide +kernel),_,rfl,_,rfl,p,_,_,ok,⟨rndTo m x.1 k,lk⟩,x,rfl,⟨dx,sH _ _ hp⟩,rfl,rfl,sm_rests o2 lk,sm_rests o2 x.2,fun v2 H2 s2 hv2=>?_⟩
   obtain rfl:=isW_int hv2
   refine ⟨p,_,_,ok,⟨rndTo m x.1 k,lk⟩,⟨behN m (rndTo m x.1 k) x.1,behN_lt x.2⟩,rfl,⟨dx,s2 _ _ (sH _ _ hp)⟩,rfl,rfl,sm_rests o2 lk,sm_rests o2 (behN_lt x.2),fun v3 H3 s3 hv3=>?_⟩
   obtain rfl:=isW_int hv3
   exact ⟨m + 1 - (k + 1),by omega,(sH.trans s2).trans s3,k + 1,_,by omega,rfl,rfl,.inr ⟨k,rfl,rfl⟩⟩
  ·have c':rndTo m x.1 k=r:=by omega
   rcases hr' with ⟨rfl,rfl⟩ | ⟨j,rfl,rfl⟩
   ·exact absurd c' (by show ¬ 1=0; decide)
   ·refine ⟨_,rfl,q ⟨rndTo m x.1 m,rndTo_lt o1 x.2 m⟩ rfl _ _ sH ?_⟩
    rw [rndTo_done o1 x.2 c']
    rfl
end
end K15
namespace K15
open PySem L2 Ws
seal PE PT PW PA PC PS PSs PG PGs PI PO
section
variable {P : Program} {w : World} {K : W.Frag} {mg : Str → Option Value} {base : Heap} {a : Adr}
def spIsFrom:Sp:=fun vs H Q _=>∃ v w l,vs=[v,.int l]∧IsW H v w∧Q (.bl (isFrom w l)) H
theorem sc_is_from:FnScope ["some","least"] ["some","least"] (defScope (top 21)):=⟨rfl,rfl,rfl,by decide +kernel,rfl,by decide +kernel,by decide +kernel⟩
theorem d_is_from (T:Tx K mg a) (F:DefAt K mg "is_from" (top 21)):Dn P w K mg base 1 "is_from" ["some","least"] spIsFrom:=by
 obtain ⟨f,fd,hm,F⟩:=F.ex
 refine ⟨f,fd,hm,F.kp,F.binds fun _ _ _ _ _ _ us hl=>match us,hl with | [_,_],_=>rfl,?_⟩
 refine F.okN sc_is_from (fun vs H Q E h=>?_) (fun cdv A outer s H vs Q E hr h=>?_)
 ·obtain ⟨_,_,_,rfl,_⟩:=h
  rfl
 ·obtain ⟨v,w',l,rfl,hw,q⟩:=h
  refine ⟨_,(pss_one (ps_ret (pe_and (pe_callB call_isinst rfl T.b_isinstance bt_isinstance (pa_cons (hs:=st_Name) (pv 0) (pa_cons (hs:=st_Name) (pe_bltn (v:=V.ty "int") rfl T.b_int bt_int rfl) pa_nil))) (pe_one (pe_cmpR op_ge (pv 0) (pv 1) (nomark _)))))),?_⟩
  rcases isW_cases hw with ⟨rfl,rfl⟩ | ⟨i,rfl,rfl⟩ | ⟨p,x,y,rfl,rfl,hp⟩
  ·exact ⟨_,rfl,_,_,_,_,_,rfl,rfl,.of .non,kit_nI,_,rfl,iteF q⟩
  ·exact ⟨_,rfl,_,_,_,_,_,rfl,rfl,.of (.int _),kit_iI,_,rfl,iteT ⟨_,rfl,_,rfl,_,_,rfl,rfl,q⟩⟩
  ·exact ⟨_,rfl,_,_,_,_,_,rfl,rfl,.of (.tup hp),kit_tI,_,rfl,iteF q⟩
def spIsShare:Sp:=fun vs H Q _=>∃ v w,vs=[v]∧IsW H v w∧Q (.bl (isShare w)) H
theorem sc_is_share:FnScope ["some"] ["some"] (defScope (top 12)):=⟨rfl,rfl,rfl,by decide +kernel,rfl,by decide +kernel,by decide +kernel⟩
theorem d_is_share (T:Tx K mg a) (D_divisor:Dn P w K mg base 1 "divisor" ["first","second"] spDivisor) (F:DefAt K mg "is_share" (top 12)):Dn P w K mg base 2 "is_share" ["some"] spIsShare:=by
 obtain ⟨f,fd,hm,F⟩:=F.ex
 refine ⟨f,fd,hm,F.kp,F.binds fun _ _ _ _ _ _ us hl=>match us,hl with | [_],_=>rfl,?_⟩
 refine F.okN sc_is_share (fun vs H Q E h=>?_) (fun cdv A outer s H vs Q E hr h=>?_)
 ·obtain ⟨_,_,rfl,_⟩:=h
  rfl
 ·obtain ⟨v,w',rfl,hw,q⟩:=h
  refine ⟨_,(pss_one (ps_ret (pe_and (pe_callB call_isinst rfl T.b_isinstance bt_isinstance (pa_cons (hs:=st_Name) (pv 0) (pa_cons (hs:=st_Name) (pe_bltn (v:=V.ty "tuple") rfl T.b_tuple bt_tuple rfl) pa_nil))) (pe_and (pe_cmpR op_gt (pe_ix ix_tup (pv 0) pe_int (fun _ _=>rfl)) pe_int (nomark _)) (pe_one (pe_cmpR op_eq (pe_callD D_divisor (hr.mono (by decide)) rfl passE0 (pa_cons (hs:=st_Subscript) (pe_ix ix_tup (pv 0) pe_int (fun _ _=>rfl)) (pa_cons (hs:=st_Subscript) (pe_ix ix_tup (pv 0) pe_int (fun _ _=>rfl)) pa_nil))) pe_int (nomark _))))))),?_⟩
  rcases isW_cases hw with ⟨rfl,rfl⟩ | ⟨i,rfl,rfl⟩ | ⟨p,x,y,rfl,rfl,hp⟩
  ·exact ⟨_,rfl,_,_,_,_,_,rfl,rfl,.of .non,kit_nT,_,rfl,iteF q⟩
  ·exact ⟨_,rfl,_,_,_,_,_,rfl,rfl,.of (.int _),kit_iT,_,rfl,iteF q⟩
  ·refine ⟨_,rfl,_,_,_,_,_,rfl,rfl,.of (.tup hp),kit_tT,_,rfl,iteT ?_⟩
   refine ⟨_,rfl,p,_,_,_,rfl,rfl,SqT.of hp,rfl,_,_,rfl,rfl,_,rfl,?_⟩
   refine ite2 (fun c=>?_) (fun c=>?_)
   ·have c:0 < y:=of_decide_eq_true c
    refine ⟨_,rfl,p,_,_,_,rfl,rfl,SqT.of hp,rfl,_,rfl,p,_,_,_,rfl,rfl,SqT.of hp,rfl,x,y,rfl,c,rfl,?_⟩
    have:decide (V.int (Int.gcd x y:Int)=V.int 1)=isShare (.pair x y):=by
     by_cases g:Int.gcd x y=1
     ·simp [isShare,c,g]
     ·have:¬ ((Int.gcd x y:Int)=1):=by omega
      simp [isShare,c,g,this]
    rw [this]
    exact q
   ·have c:¬ 0 < y:=fun z=>c (decide_eq_true z)
    have:isShare (.pair x y)=false:=by simp [isShare,c]
    rw [this] at q
    exact q
def spIsWorth (a:Adr) (kd:Kd):Sp:=fun vs H Q _=>∃ p v w,vs=[.ref p,v]∧KindAt a H p kd∧KdOk kd∧IsW H v w∧Q (.bl (isWorth kd w)) H
theorem sp_len {kd:Kd} {vs:List V} {H:Hp} {Q:VK} {E:XK} (h:spIsWorth a kd vs H Q E):vs.length=2:=by
 obtain ⟨_,_,_,rfl,_⟩:=h
 rfl
theorem isFrom_true {w:Wd} {l:Int} (h:isFrom w l=true):∃ i,w=.int i∧l≤i:=by
 cases w <;> simp_all [isFrom]
theorem isShare_true {w:Wd} (h:isShare w=true):∃ x y,w=.pair x y:=by
 cases w <;> simp_all [isShare]
theorem or_none {H:Hp} {v:V} {w:Wd} {kd:Kd} {Q:VK} {E:XK} {self:V} (hw:IsW H v w) (e0:isWorth kd .non=true) (e1:w≠.non→isWorth kd w=isFrom w 0) (q:Q (.bl (isWorth kd w)) H) :
  tRet (tOrV (tIsN (tVar 1)) (tCallD spIsFrom E (tCons (tVar 1) (tCons (tC (.int 0)) tNil)))) { nx:=fun _ H'=>Q .non H',rt:=Q } (start ["self","some"] [self,v]) H:=by
 refine ⟨_,rfl,_,rfl,iteD (fun c=>?_) (fun c=>?_)⟩
 ·subst c
  rcases isW_cases hw with ⟨_,rfl⟩ | ⟨i,z,_⟩ | ⟨p,x,y,z,_⟩
  ·rw [e0] at q; exact q
  ·cases z
  ·cases z
 ·refine ⟨_,rfl,v,w,_,rfl,hw,?_⟩
  rw [e1 (fun z=>by subst z; exact c (isW_non hw))] at q
  exact q
theorem sc_Fewest_is_worth:FnScope ["self","some"] ["self","some"] (defScope (inClass (top 24) 2)):=⟨rfl,rfl,rfl,by decide +kernel,rfl,by decide +kernel,by decide +kernel⟩
theorem sc_Widest_is_worth:FnScope ["self","some"] ["self","some"] (defScope (inClass (top 25) 2)):=⟨rfl,rfl,rfl,by decide +kernel,rfl,by decide +kernel,by decide +kernel⟩
theorem sc_Counted_is_worth:FnScope ["self","some"] ["self","some"] (defScope (inClass (top 26) 2)):=⟨rfl,rfl,rfl,by decide +kernel,rfl,by decide +kernel,by decide +kernel⟩
theorem sc_Likeliest_is_worth:FnScope ["self","some"] ["self","some"] (defScope (inClass (top 27) 2)):=⟨rfl,rfl,rfl,by decide +kernel,rfl,by decide +kernel,by decide +kernel⟩
theorem sc_Chances_is_worth:FnScope ["self","some"] ["self","some"] (defScope (inClass (top 28) 2)):=⟨rfl,rfl,rfl,by decide +kernel,rfl,by decide +kernel,by decide +kernel⟩
theorem sc_Musts_is_worth:FnScope ["self","some"] ["self","some"] (defScope (inClass (top 29) 2)):=⟨rfl,rfl,rfl,by decide +kernel,rfl,by decide +kernel,by decide +kernel⟩
theorem sc_Rests_is_worth:FnScope ["self","some"] ["self","some"] (defScope (inClass (top 30) 3)):=⟨rfl,rfl,rfl,by decide +kernel,rfl,by decide +kernel,by decide +kernel⟩
structure IsWorthAt (K:W.Frag) (a:Adr):Prop where
 f0:MthAt K a.cFewest "is_worth" "Fewest.is_worth" (inClass (top 24) 2)
 f1:MthAt K a.cWidest "is_worth" "Widest.is_worth" (inClass (top 25) 2)
 f2:MthAt K a.cCounted "is_worth" "Counted.is_worth" (inClass (top 26) 2)
 f3:MthAt K a.cLikeliest "is_worth" "Likeliest.is_worth" (inClass (top 27) 2)
 f4:MthAt K a.cChances "is_worth" "Chances.is_worth" (inClass (top 28) 2)
 f5:MthAt K a.cMusts "is_worth" "Musts.is_worth" (inClass (top 29) 2)
 f6:MthAt K a.cRests "is_worth" "Rests.is_worth" (inClass (top 30) 3)
theorem v_is_worth (T:Tx K mg a) (D_is_from:Dn P w K mg base 1 "is_from" ["some","least"] spIsFrom) (D_is_share:Dn P w K mg base 2 "is_share" ["some"] spIsShare) (F:IsWorthAt K a) :
  Mth P w K mg base 3 a.cl "is_worth" ["self","some"] (fun i=>spIsWorth a i.1):=by
 refine ⟨fun ⟨kd,hk⟩=>?_⟩
 cases kd with
 | fewest =>
  refine m_of hk T F.f0 (fun _ _ _ _ _ _ us hl=>match us,hl with | [_,_],_=>rfl) fun f fd F=>?_
  refine F.okN sc_Fewest_is_worth (fun _ _ _ _=>sp_len) (fun cdv A outer s H vs Q E hr h=>?_)
  obtain ⟨p,v,w',rfl,_,ok,hw,q⟩:=h
  exact ⟨_,(pss_one (ps_ret (pe_or (pe_cmp (pc_isN (pv 1))) (pe_one (pe_callD D_is_from (hr.mono (by decide)) rfl passE0 (pa_cons (hs:=st_Name) (pv 1) (pa_cons (hs:=st_Constant) pe_int pa_nil))))))),or_none hw (by simp [isWorth]) (fun n=>by simp [isWorth,n]) q⟩
 | widest =>
  refine m_of hk T F.f1 (fun _ _ _ _ _ _ us hl=>match us,hl with | [_,_],_=>rfl) fun f fd F=>?_
  refine F.okN sc_Widest_is_worth (fun _ _ _ _=>sp_len) (fun cdv A outer s H vs Q E hr h=>?_)
  obtain ⟨p,v,w',rfl,_,ok,hw,q⟩:=h
  refine ⟨_,(pss_one (ps_ret (pe_and (pe_callD D_is_from (hr.mono (by decide)) rfl passE0 (pa_cons (hs:=st_Name) (pv 1) (pa_cons (hs:=st_Constant) pe_int pa_nil))) (pe_one (pe_cmpR op_le (pv 1) (pe_glob (v:=V.int 1000000000) rfl T.c_WIDEST ⟨_,rfl⟩) (nomark _)))))),?_⟩
  refine ⟨_,rfl,v,w',_,rfl,hw,_,rfl,iteB (fun c=>?_) (fun c=>?_)⟩
  ·obtain ⟨i,rfl,hi⟩:=isFrom_true c
   obtain rfl:=isW_int hw
   refine ⟨_,rfl,_,_,rfl,rfl,?_⟩
   rw [show isWorth .widest (.int i)=decide (i≤1000000000) by simp [isWorth,hi]] at q
   exact q
  ·rw [show isWorth .widest w'=false by cases w' <;> simp_all [isWorth,isFrom] <;> (intros; omega)] at q
   exact q
 | counted =>
  refine m_of hk T F.f2 (fun _ _ _ _ _ _ us hl=>match us,hl with | [_,_],_=>rfl) fun f fd F=>?_
  refine F.okN sc_Counted_is_worth (fun _ _ _ _=>sp_len) (fun cdv A outer s H vs Q E hr h=>?_)
  obtain ⟨p,v,w',rfl,_,ok,hw,q⟩:=h
  exact ⟨_,(pss_one (ps_ret (pe_callD D_is_from (hr.mono (by decide)) rfl passE0 (pa_cons (hs:=st_Name) (pv 1) (pa_cons (hs:=st_UnaryOp) (pe_un un_neg pe_int) pa_nil))))),⟨_,rfl,_,rfl,v,w',_,rfl,hw,q⟩⟩
 | likeliest =>
  refine m_of hk T F.f3 (fun _ _ _ _ _ _ us hl=>match us,hl with | [_,_],_=>rfl) fun f fd F=>?_
  refine F.okN sc_Likeliest_is_worth (fun _ _ _ _=>sp_len) (fun cdv A outer s H vs Q E hr h=>?_)
  obtain ⟨p,v,w',rfl,_,ok,hw,q⟩:=h
  refine ⟨_,(pss_one (ps_ret (pe_and (pe_callD D_is_share (hr.mono (by decide)) rfl passE0 (pa_cons (hs:=st_Name) (pv 1) pa_nil)) (pe_one (pe_chain op_le op_le pe_int (pe_ix ix_tup (pv 1) pe_int (fun _ _=>rfl)) (pe_ix ix_tup (pv 1) pe_int (fun _ _=>rfl))))))),?_⟩
  refine ⟨_,rfl,v,w',rfl,hw,_,rfl,iteB (fun c=>?_) (fun c=>?_)⟩
  ·obtain ⟨x,y,rfl⟩:=isShare_true c
   obtain ⟨r,rfl,hp⟩:=isW_pair hw
   refine ⟨_,rfl,r,_,_,_,rfl,rfl,SqT.of hp,rfl,_,_,rfl,rfl,_,rfl,iteD (fun d=>?_) (fun d=>?_)⟩
   ·refine ⟨_,rfl,r,_,_,_,rfl,rfl,SqT.of hp,rfl,_,_,rfl,rfl,?_⟩
    rw [show isWorth .likeliest (.pair x y)=decide (x≤y) by simp [isWorth,c,d]] at q
    exact q
   ·rw [show isWorth .likeliest (.pair x y)=false by simp [isWorth,d]] at q
    exact q
  ·rw [show isWorth .likeliest w'=false by cases w' <;> simp_all [isWorth]] at q
   exact q
 | chances =>
  refine m_of hk T F.f4 (fun _ _ _ _ _ _ us hl=>match us,hl with | [_,_],_=>rfl) fun f fd F=>?_
  refine F.okN sc_Chances_is_worth (fun _ _ _ _=>sp_len) (fun cdv A outer s H vs Q E hr h=>?_)
  obtain ⟨p,v,w',rfl,_,ok,hw,q⟩:=h
  refine ⟨_,(pss_one (ps_ret (pe_and (pe_callD D_is_share (hr.mono (by decide)) rfl passE0 (pa_cons (hs:=st_Name) (pv 1) pa_nil)) (pe_one (pe_cmpR op_ge (pe_ix ix_tup (pv 1) pe_int (fun _ _=>rfl)) pe_int (nomark _)))))),?_⟩
  refine ⟨_,rfl,v,w',rfl,hw,_,rfl,iteB (fun c=>?_) (fun c=>?_)⟩
  ·obtain ⟨x,y,rfl⟩:=isShare_true c
   obtain ⟨r,rfl,hp⟩:=isW_pair hw
   refine ⟨_,rfl,r,_,_,_,rfl,rfl,SqT.of hp,rfl,_,_,rfl,rfl,?_⟩
   rw [show isWorth .chances (.pair x y)=decide (0≤x) by simp [isWorth,c]] at q
   exact q
  ·rw [show isWorth .chances w'=false by cases w' <;> simp_all [isWorth]] at q
   exact q
 | musts =>
  refine m_of hk T F.f5 (fun _ _ _ _ _ _ us hl=>match us,hl with | [_,_],_=>rfl) fun f fd F=>?_
  refine F.okN sc_Musts_is_worth (fun _ _ _ _=>sp_len) (fun cdv A outer s H vs Q E hr h=>?_)
  obtain ⟨p,v,w',rfl,_,ok,hw,q⟩:=h
  exact ⟨_,(pss_one (ps_ret (pe_or (pe_cmp (pc_isN (pv 1))) (pe_one (pe_callD D_is_from (hr.mono (by decide)) rfl passE0 (pa_cons (hs:=st_Name) (pv 1) (pa_cons (hs:=st_Constant) pe_int pa_nil))))))),or_none hw (by simp [isWorth]) (fun n=>by simp [isWorth,n]) q⟩
 | rests m =>
  refine m_of (kd:=.rests m) hk T F.f6 (fun _ _ _ _ _ _ us hl=>match us,hl with | [_,_],_=>rfl) fun f fd F=>?_
  refine F.okN sc_Rests_is_worth (fun _ _ _ _=>sp_len) (fun cdv A outer s H vs Q E hr h=>?_)
  obtain ⟨p,v,w',rfl,⟨dx,hp⟩,ok,hw,q⟩:=h
  refine ⟨_,(pss_one (ps_ret (pe_and (pe_callD D_is_from (hr.mono (by decide)) rfl passE0 (pa_cons (hs:=st_Name) (pv 1) (pa_cons (hs:=st_Constant) pe_int pa_nil))) (pe_one (pe_cmpR op_lt (pv 1) (pe_op op_shl pe_int (pe_fld (pv 0) rfl)) (nomark _)))))),?_⟩
  refine ⟨_,rfl,v,w',_,rfl,hw,_,rfl,iteB (fun c=>?_) (fun c=>?_)⟩
  ·obtain ⟨i,rfl,hi⟩:=isFrom_true c
   obtain rfl:=isW_int hw
   have o1:1≤m:=ok.1
   have o2:m≤12:=ok.2
   refine ⟨_,rfl,_,rfl,p,_,dx,_,_,rfl,hp,T.cl (.rests m) hk,T.na_Rests_m,rfl,_,_,rfl,rfl,⟨by omega,by omega,by decide⟩,_,_,rfl,rfl,?_⟩
   rw [show isWorth (.rests m) (.int i)=decide (i < 1 * 2 ^ (m:Int).toNat) by simp [isWorth,hi]] at q
   exact q
  ·rw [show isWorth (.rests m) w'=false by cases w' <;> simp_all [isWorth,isFrom] <;> (intros; omega)] at q
   exact q
end
end K15
namespace K15
open PySem L2 Ws
seal PE PT PW PA PC PS PSs PG PGs PI PO PJ PTs
def IsRoad (H:Hp) (v:V) (r:Road):Prop:=∃ p wv,v=.ref p∧H p=some (.tup [.int r.f,.int r.t,wv])∧IsW H wv r.w
theorem IsRoad.same {H H':Hp} (e:Same H H') {v:V} {r:Road}:IsRoad H v r→IsRoad H' v r:=fun ⟨p,wv,e1,e2,e3⟩=>⟨p,wv,e1,e _ _ e2,e3.same e⟩
abbrev IsRoads (H:Hp):List V→List Road→Prop:=Paired (IsRoad H)
theorem IsRoads.same {H H':Hp} (e:Same H H') {vs:List V} {rs:List Road} (h:IsRoads H vs rs):IsRoads H' vs rs:=Paired.mapP h fun _ _ q=>q.same e
abbrev IsWs (H:Hp):List V→List Wd→Prop:=Paired (IsW H)
theorem IsWs.same {H H':Hp} (e:Same H H') {vs:List V} {rs:List Wd} (h:IsWs H vs rs):IsWs H' vs rs:=Paired.mapP h fun _ _ q=>q.same e
theorem pget {α β:Type} {F:α→β→Prop}:∀ {xs:List α} {ys:List β} {i:Nat} {x:α},Paired F xs ys→xs[i]?=some x→∃ y,ys[i]?=some y∧F x y
 | _ :: _,_ :: _,0,_,.cons h _,e=>⟨_,rfl,by simp at e; subst e; exact h⟩
 | _ :: _,_ :: _,i + 1,_,.cons _ t,e=>by
  obtain ⟨y,e',h⟩:=pget (i:=i) t (by simpa using e)
  exact ⟨y,by simpa using e',h⟩
structure NetIs (a:Adr) (H:Hp) (p:Addr) (kd:Kd) (n:Nat) (kp tp:Addr) (vs:List V) (rs:List Road):Prop where
 ins:∃ dx,H p=some (.ins a.cNet dx [("own_kind",.ref kp),("how_many",.int (n:Int)),("own_roads",.ref tp)])
 kind:KindAt a H kp kd
 tup:H tp=some (.tup vs)
 rds:IsRoads H vs rs
theorem KindAt.same {a:Adr} {H H':Hp} {p:Addr} {kd:Kd} (e:Same H H'):KindAt a H p kd→KindAt a H' p kd:=fun ⟨dx,h⟩=>⟨dx,e _ _ h⟩
theorem NetIs.same {a:Adr} {H H':Hp} {p:Addr} {kd:Kd} {n:Nat} {kp tp:Addr} {vs:List V} {rs:List Road} (e:Same H H') (h:NetIs a H p kd n kp tp vs rs):NetIs a H' p kd n kp tp vs rs :=
 ⟨let ⟨dx,q⟩:=h.ins; ⟨dx,e _ _ q⟩,h.kind.same e,e _ _ h.tup,h.rds.same e⟩
theorem lines {n:Nat} (h:n≤1000):n < sizeLine:=by rw [sizeLine_eq]; omega
section
variable {P : Program} {w : World} {K : W.Frag} {mg : Str → Option Value} {base : Heap} {a : Adr}
def spNums (a:Adr):Sp:=fun vs H Q E=>∃ (n:Int) (rl:Addr) (xs:List V),vs=[.int n,.ref rl]∧H rl=some (.lst xs)∧n.natAbs.log2 < 1920∧(numsOk n xs.length=true→Q .non H)∧(numsOk n xs.length=false→E (.ref a.cNoNet) none H)
theorem sc_check_numbers:FnScope ["places","roads"] ["places","roads"] (defScope (top 34)):=⟨rfl,rfl,rfl,by decide +kernel,rfl,by decide +kernel,by decide +kernel⟩
theorem d_check_numbers (T:Tx K mg a) (F:DefAt K mg "check_numbers" (top 34)):Dn P w K mg base 1 "check_numbers" ["places","roads"] (spNums a):=by
 obtain ⟨f,fd,hm,F⟩:=F.ex
 refine ⟨f,fd,hm,F.kp,F.binds fun _ _ _ _ _ _ us hl=>match us,hl with | [_,_],_=>rfl,?_⟩
 refine F.okX sc_check_numbers (fun vs H Q E h=>?_) (fun cdv A outer s H vs Q E hr h=>?_)
 ·obtain ⟨_,_,_,rfl,_⟩:=h
  rfl
 ·obtain ⟨n,rl,xs,rfl,hx,hl,q,e⟩:=h
  refine ⟨_,(pss_cons (ps_if (PW.pt (pw_or (pt_cmpR op_lt (pv 0) pe_int (nomark _)) (pw_or1 (pt_cmpR op_gt (pv 0) (pe_glob (v:=V.int 8) rfl T.c_MOST_PLACES ⟨_,rfl⟩) (nomark _))))) (pss_one (ps_raise T.x_NoNet rfl rfl rais_cx (pa_cons (hs:=st_JoinedStr) (pe_fstr2 (pv 0)) pa_nil))) pss_nil)
   (pss_one (ps_if (pt_cmpR op_gt (pe_callB call_len_seq rfl T.b_len bt_len (pa_cons (hs:=st_Name) (pv 1) pa_nil)) (pe_glob (v:=V.int 64) rfl T.c_MOST_ROADS ⟨_,rfl⟩) (nomark _)) (pss_one (ps_raise T.x_NoNet rfl rfl rais_cx (pa_cons (hs:=st_Constant) pe_str pa_nil))) pss_nil))),?_⟩
  have hs:(Str.ofString "a net has 1 to 8 places, not ").length≤1000:=by decide +kernel
  have no:¬ (1≤n∧n≤8∧xs.length≤64)→numsOk n xs.length=false:=fun z=>by
   simp only [numsOk,Bool.and_eq_false_iff,decide_eq_false_iff_not]; omega
  refine ⟨_,rfl,_,_,rfl,rfl,_,rfl,iteD (fun c=>?_) (fun c=>?_)⟩
  ·exact ⟨hs,_,rfl,_,rfl,hl,fun z=>⟨by show 1≤sizeLine; decide,e (no (by omega))⟩⟩
  ·refine ⟨_,rfl,_,_,rfl,rfl,_,rfl,iteD (fun c2=>?_) (fun c2=>?_)⟩
   ·exact ⟨hs,_,rfl,_,rfl,hl,fun z=>⟨by show 1≤sizeLine; decide,e (no (by omega))⟩⟩
   ·refine ⟨_,rfl,rl,_,rfl,.inl (SqL.of hx),_,_,rfl,rfl,_,rfl,iteD (fun c3=>?_) (fun c3=>?_)⟩
    ·exact ⟨by show 1≤sizeLine; decide,e (no (by omega))⟩
    ·exact q (by simp only [numsOk,Bool.and_eq_true,decide_eq_true_eq]; omega)
def spEnds (a:Adr):Sp:=fun vs H Q E=>∃ (n:Int) (rl:Addr) (xs:List V) (rs:List Road),vs=[.int n,.ref rl]∧H rl=some (.lst xs)∧IsRoads H xs rs∧xs.length≤64∧(rs.all (endOk n)=true→∀ H',Same H H'→Q .non H')∧(rs.all (endOk n)=false→∀ H',Same H H'→E (.ref a.cNoNet) none H')
theorem all_take {α:Type} {p:α→Bool} {l:List α} {i:Nat} {x:α} (h:(l.take i).all p=true) (e:l[i]?=some x) (hx:p x=true):(l.take (i + 1)).all p=true:=by
 rw [List.take_add_one,e,List.all_append,h]
 simp [hx]
theorem all_not {α:Type} {p:α→Bool} {l:List α} {i:Nat} {x:α} (e:l[i]?=some x) (hx:p x=false):l.all p=false:=by
 rw [List.all_eq_false]
 exact ⟨x,List.mem_of_getElem? e,by simp [hx]⟩
theorem sc_check_ends:FnScope ["places","roads","number","road"] ["places","roads"] (defScope (top 35)):=⟨rfl,rfl,rfl,by decide +kernel,rfl,by decide +kernel,by decide +kernel⟩
theorem d_check_ends (T:Tx K mg a) (F:DefAt K mg "check_ends" (top 35)):Dn P w K mg base 1 "check_ends" ["places","roads"] (spEnds a):=by
 obtain ⟨f,fd,hm,F⟩:=F.ex
 refine ⟨f,fd,hm,F.kp,F.binds fun _ _ _ _ _ _ us hl=>match us,hl with | [_,_],_=>rfl,?_⟩
 refine F.okX sc_check_ends (fun vs H Q E h=>?_) (fun cdv A outer s H vs Q E hr h=>?_)
 ·obtain ⟨_,_,_,_,rfl,_⟩:=h
  rfl
 ·obtain ⟨n,rl,xs,rs,rfl,hx,hR,h64,q,e⟩:=h
  refine ⟨_,(pss_one (ps_for own_cx rfl (pi_enum rfl T.b_enumerate (pa_cons (hs:=st_Name) (pv 1) pa_nil)) (pg_tup rfl (pgs_cons (pg_name (i:=2) sc_check_ends.nd rfl (Or.inl rfl)) (pgs_cons (pg_name (i:=3) sc_check_ends.nd rfl (Or.inl rfl)) pgs_nil))) (pss_one (ps_if (pt_not (PW.pt (pw_and (pt_chain op_le op_lt pe_int (pe_ix ix_tup (pv 3) pe_int (fun _ _=>rfl)) (pv 0)) (pw_and1 (pt_chain op_le op_lt pe_int (pe_ix ix_tup (pv 3) pe_int (fun _ _=>rfl)) (pv 0)))))) (pss_one (ps_raise T.x_NoNet rfl rfl rais_cx (pa_cons (hs:=st_JoinedStr) (pe_fstrN (pj_str (pj_int (pv 2) (pj_str pj_nil)))) pa_nil))) pss_nil)))),?_⟩
  have hs1:(Str.ofString "an end of road ").length≤1000:=by decide +kernel
  have hs2:(Str.ofString " is no place").length≤1000:=by decide +kernel
  have hl:=hR.length
  refine ⟨_,rfl,rl,rfl,⟨xs,SqL.of hx⟩,for_enum (xs:=xs) (fun i σ H'=>∃ u v,σ=[some (.int n),some (.ref rl),u,v]∧Same H H'∧(rs.take i).all (endOk n)=true) ⟨_,_,rfl,Same.refl H,by simp⟩ (fun i σ H' _ ⟨_,_,_,s',_⟩=>SqL.of (s' _ _ hx)) ?_ ?_⟩
  ·rintro i x σ H' p ex ⟨u,v,rfl,s',al⟩ np
   obtain ⟨r,er,pr,wv,rfl,e2,e3⟩:=pget hR ex
   have s2:Same H (upd H' p (.tup [.int (i:Nat),.ref pr])):=s'.trans (same_one np)
   have e4:=s2 _ _ e2
   have hi:i < xs.length:=(List.getElem?_eq_some_iff.mp ex).1
   have li:((i:Nat):Int).natAbs.log2 < 1920:=by
    refine log2_small ?_
    have:(64:Nat) < 10 ^ 62:=by decide
    omega
   have bad:endOk n r=false→E (.ref a.cNoNet) none (upd H' p (.tup [.int (i:Nat),.ref pr])):=fun z=>e (all_not er z) _ s2
   refine ⟨p,_,rfl,SqT.of upd_same,rfl,_,_,rfl,_,_,rfl,rfl,?_⟩
   have rz:endOk n r=false→_:=fun z=>(⟨hs1,_,rfl,_,rfl,li,hs2,fun z2=>⟨by show 1≤sizeLine; decide,bad z⟩⟩ :
    tRaise a.cNoNet E (tCons (tFsN fun σ H Q=>(Str.ofString "an end of road ").length≤1000∧tVar 2 σ H fun x H1=>∃ i,x=V.int i∧i.natAbs.log2 < 1920∧(Str.ofString " is no place").length≤1000∧Q H1) tNil) { nx:=fun _ H'=>Q .non H',rt:=Q } [some (.int n),some (.ref rl),some (.int (i:Nat)),some (.ref pr)] (upd H' p (.tup [.int (i:Nat),.ref pr])))
   have no:¬ (0≤r.f∧r.f < n∧0≤r.t∧r.t < n)→endOk n r=false:=fun z=>by
    simp only [endOk,Bool.and_eq_false_iff,decide_eq_false_iff_not]; omega
   refine ⟨_,rfl,pr,_,_,_,rfl,rfl,SqT.of e4,rfl,_,_,rfl,rfl,_,rfl,iteD (fun c1=>?_) (fun c1=>⟨_,rfl,iteF (iteT (rz (no (by omega))))⟩)⟩
   refine ⟨_,rfl,_,_,rfl,rfl,_,rfl,iteD (fun c2=>?_) (fun c2=>iteT (rz (no (by omega))))⟩
   refine ⟨_,rfl,pr,_,_,_,rfl,rfl,SqT.of e4,rfl,_,_,rfl,rfl,_,rfl,iteD (fun c3=>?_) (fun c3=>⟨_,rfl,iteT (rz (no (by omega)))⟩)⟩
   refine ⟨_,rfl,_,_,rfl,rfl,_,rfl,?_⟩
   by_cases c4:r.t < n
   ·rw [decide_eq_true c4]
    exact iteF ⟨_,_,rfl,s2,all_take al er (by simp only [endOk,Bool.and_eq_true,decide_eq_true_eq]; omega)⟩
   ·rw [decide_eq_false c4]
    exact iteT (rz (no (by omega)))
  ·rintro σ H' ⟨u,v,rfl,s',al⟩
   exact q (by rw [hl,List.take_length] at al; exact al) _ s'
def spMay (a:Adr) (kd:Kd):Sp:=fun vs H Q _=>∃ (p lp:Addr) (xs:List V) (ws:List Wd),vs=[.ref p,.ref lp]∧KindAt a H p kd∧H lp=some (.lst xs)∧IsWs H xs ws∧ws.length≤64∧(kd=.chances→∀ x∈ws,Sm 4000 x)∧∀ H',Same H H'→Q (.bl (mayB kd ws)) H'
theorem sc_Kind_may_start_together:FnScope ["self","somes"] ["self","somes"] (defScope (inClass (top 23) 7)):=⟨rfl,rfl,rfl,by decide +kernel,rfl,by decide +kernel,by decide +kernel⟩
theorem sc_Chances_may_start_together:FnScope ["self","somes","all_of_them","some"] ["self","somes"] (defScope (inClass (top 28) 6)):=⟨rfl,rfl,rfl,by decide +kernel,rfl,by decide +kernel,by decide +kernel⟩
structure At_may_start_together (K:W.Frag) (a:Adr):Prop where
 fFewest:MthAt K a.cFewest "may_start_together" "Kind.may_start_together" (inClass (top 23) 7)
 fWidest:MthAt K a.cWidest "may_start_together" "Kind.may_start_together" (inClass (top 23) 7)
 fCounted:MthAt K a.cCounted "may_start_together" "Kind.may_start_together" (inClass (top 23) 7)
 fLikeliest:MthAt K a.cLikeliest "may_start_together" "Kind.may_start_together" (inClass (top 23) 7)
 fChances:MthAt K a.cChances "may_start_together" "Chances.may_start_together" (inClass (top 28) 6)
 fMusts:MthAt K a.cMusts "may_start_together" "Kind.may_start_together" (inClass (top 23) 7)
 fRests:MthAt K a.cRests "may_start_together" "Kind.may_start_together" (inClass (top 23) 7)
theorem len_may {kd:Kd} {vs:List V} {H:Hp} {Q:VK} {E:XK} (h:spMay a kd vs H Q E):vs.length=2:=by
 obtain ⟨_,_,_,_,rfl,_⟩:=h
 rfl
theorem shSum_take {ws:List Wd} {i:Nat} {x:Wd} (e:ws[i]?=some x):shSum (ws.take (i + 1))=if isShare x=true then shSum (ws.take i) + toR x else shSum (ws.take i):=by
 unfold shSum
 rw [List.take_add_one,e,List.filter_append,List.map_append,List.sum_append]
 split
 ·rename_i h; simp [h,Rat.add_zero]
 ·rename_i h; simp [h,Rat.add_zero]
theorem v_may (T:Tx K mg a) (V_none:Mth P w K mg base 1 a.cl "none" ["self"] (fun i=>spZero a i.1)) (D_is_share:Dn P w K mg base 2 "is_share" ["some"] spIsShare) (D_added:Dn P w K mg base 34 "added" ["one","other"] (spTwo fun p q=>p + q))
  (D_lacking_to_one:Dn P w K mg base 34 "lacking_to_one" ["share"] spLack) (F:At_may_start_together K a):Mth P w K mg base 36 a.cl "may_start_together" ["self","somes"] (fun i=>spMay a i.1):=by
 refine ⟨fun ⟨kd,hk⟩=>?_⟩
 cases kd with
 | fewest =>
  refine m_of hk T F.fFewest (fun _ _ _ _ _ _ us hl=>match us,hl with | [_,_],_=>rfl) fun f fd F=>F.okN sc_Kind_may_start_together (fun _ _ _ _=>len_may) (fun cdv A outer s H vs Q E hr h=>?_)
  obtain ⟨p,lp,xs,ws,rfl,_,_,_,_,_,q⟩:=h
  exact ⟨_,(pss_one (ps_ret pe_bl)),q _ (Same.refl H)⟩
 | widest =>
  refine m_of hk T F.fWidest (fun _ _ _ _ _ _ us hl=>match us,hl with | [_,_],_=>rfl) fun f fd F=>F.okN sc_Kind_may_start_together (fun _ _ _ _=>len_may) (fun cdv A outer s H vs Q E hr h=>?_)
  obtain ⟨p,lp,xs,ws,rfl,_,_,_,_,_,q⟩:=h
  exact ⟨_,(pss_one (ps_ret pe_bl)),q _ (Same.refl H)⟩
 | counted =>
  refine m_of hk T F.fCounted (fun _ _ _ _ _ _ us hl=>match us,hl with | [_,_],_=>rfl) fun f fd F=>F.okN sc_Kind_may_start_together (fun _ _ _ _=>len_may) (fun cdv A outer s H vs Q E hr h=>?_)
  obtain ⟨p,lp,xs,ws,rfl,_,_,_,_,_,q⟩:=h
  exact ⟨_,(pss_one (ps_ret pe_bl)),q _ (Same.refl H)⟩
 | likeliest =>
  refine m_of hk T F.fLikeliest (fun _ _ _ _ _ _ us hl=>match us,hl with | [_,_],_=>rfl) fun f fd F=>F.okN sc_Kind_may_start_together (fun _ _ _ _=>len_may) (fun cdv A outer s H vs Q E hr h=>?_)
  obtain ⟨p,lp,xs,ws,rfl,_,_,_,_,_,q⟩:=h
  exact ⟨_,(pss_one (ps_ret pe_bl)),q _ (Same.refl H)⟩
 | chances =>
  refine m_of hk T F.fChances (fun _ _ _ _ _ _ us hl=>match us,hl with | [_,_],_=>rfl) fun f fd F=>F.okN sc_Chances_may_start_together (fun _ _ _ _=>len_may) (fun cdv A outer s H vs Q E hr h=>?_)
  obtain ⟨p,lp,xs,ws,rfl,⟨dx,hp⟩,hx,hW,h64,sm,q⟩:=h
  have sm:=sm rfl
  refine ⟨_,(pss_cons (ps_set (i:=2) sc_Chances_may_start_together.nd rfl (Or.inl rfl) (pe_methV0 (pv 0) V_none (hr.mono (by decide)) passE0))
   (pss_cons (ps_for PassesOwn.never rfl (pi_list (pv 1)) (pg_name (i:=3) sc_Chances_may_start_together.nd rfl (Or.inl rfl)) (pss_one (ps_if (pt_val (pe_callD D_is_share (hr.mono (by decide)) rfl passE0 (pa_cons (hs:=st_Name) (pv 3) pa_nil)) (fun _=>rfl)) (pss_one (ps_set (i:=2) sc_Chances_may_start_together.nd rfl (Or.inl rfl) (pe_callD D_added (hr.mono (by decide)) rfl passE0 (pa_cons (hs:=st_Name) (pv 2) (pa_cons (hs:=st_Name) (pv 3) pa_nil))))) pss_nil)))
   (pss_one (ps_ret (pe_cmpR op_ge (pe_ix ix_tup (pe_callD D_lacking_to_one (hr.mono (by decide)) rfl passE0 (pa_cons (hs:=st_Name) (pv 2) pa_nil)) pe_int (fun _ _=>rfl)) pe_int (nomark _)))))),?_⟩
  refine ⟨_,rfl,⟨.chances,hk⟩,p,dx,_,rfl,hp,kfs_no _ (by decide +kernel),p,trivial,rfl,⟨dx,hp⟩,fun v0 H0 s0 hv0=>?_⟩
  refine ⟨_,rfl,lp,rfl,⟨xs,SqL.of (s0 _ _ hx)⟩,for_list (xs:=xs) (fun i σ H'=>∃ v l,σ=[some (.ref p),some (.ref lp),some v,l]∧Same H H'∧IsW H' v (ofR (shSum (ws.take i)))∧Sm (4001 * i + 30) (ofR (shSum (ws.take i))))
   ⟨v0,_,rfl,s0,hv0,(show Sm 30 (ofR 0) by decide)⟩ (fun i σ H' _ ⟨_,_,_,s',_⟩=>SqL.of (s' _ _ hx)) ?_ ?_⟩
  ·rintro i x σ H' ex ⟨v,l,rfl,s',hv,sv⟩
   obtain ⟨y,ey,hy⟩:=pget hW ex
   have hi:i < 64:=by have:=(List.getElem?_eq_some_iff.mp ey).1; omega
   refine ⟨_,rfl,x,y,rfl,hy.same s',_,rfl,iteB (fun c=>?_) (fun c=>?_)⟩
   ·have ey2:=ofR_toR c
    have sy:=sm y (List.mem_of_getElem? ey)
    refine ⟨_,rfl,_,rfl,v,x,_,toR y,rfl,hv,by rw [ey2]; exact hy.same s',sv.mono (by show _≤16000000; omega),by rw [ey2]; exact sy.mono (by decide),fun v2 H2 s2 hv2=>⟨v2,_,rfl,s'.trans s2,?_,?_⟩⟩
    ·rw [shSum_take ey,if_pos c]; exact hv2
    ·rw [shSum_take ey,if_pos c]
     have:=sm_addR sv (by rw [ey2]; exact sy)
     exact this.mono (by omega)
   ·refine ⟨v,_,rfl,s',?_,?_⟩
    ·rw [shSum_take ey,if_neg (by simp [c])]; exact hv
    ·rw [shSum_take ey,if_neg (by simp [c])]; exact sv.mono (by omega)
  ·rintro σ H' ⟨v,l,rfl,s',hv,sv⟩
   refine ⟨_,rfl,v,_,rfl,hv,fun v2 H2 s2 hv2=>?_⟩
   obtain ⟨r,rfl,er⟩:=isW_pair hv2
   refine ⟨r,_,_,_,rfl,rfl,SqT.of er,rfl,_,_,rfl,rfl,?_⟩
   rw [hW.length,List.take_length] at er
   have e:decide (0≤(1 - shSum (List.take xs.length ws)).num)=mayB .chances ws:=by
    rw [hW.length,List.take_length]
    show _=decide (shSum ws≤1)
    refine decide_eq_decide.mpr ⟨fun z=>?_,fun z=>?_⟩
    ·have:=Rat.num_nonneg.mp z; grind
    ·exact Rat.num_nonneg.mpr (by grind)
   dsimp only
   rw [e]
   exact q _ (s'.trans s2)
 | musts =>
  refine m_of hk T F.fMusts (fun _ _ _ _ _ _ us hl=>match us,hl with | [_,_],_=>rfl) fun f fd F=>F.okN sc_Kind_may_start_together (fun _ _ _ _=>len_may) (fun cdv A outer s H vs Q E hr h=>?_)
  obtain ⟨p,lp,xs,ws,rfl,_,_,_,_,_,q⟩:=h
  exact ⟨_,(pss_one (ps_ret pe_bl)),q _ (Same.refl H)⟩
 | rests m =>
  refine m_of (kd:=.rests m) hk T F.fRests (fun _ _ _ _ _ _ us hl=>match us,hl with | [_,_],_=>rfl) fun f fd F=>F.okN sc_Kind_may_start_together (fun _ _ _ _=>len_may) (fun cdv A outer s H vs Q E hr h=>?_)
  obtain ⟨p,lp,xs,ws,rfl,_,_,_,_,_,q⟩:=h
  exact ⟨_,(pss_one (ps_ret pe_bl)),q _ (Same.refl H)⟩
def spStarts (a:Adr):Sp:=fun vs H Q E=>∃ (kd:Kd) (kp:Addr) (n:Int) (rl:Addr) (xs:List V) (rs:List Road),vs=[.ref kp,.int n,.ref rl]∧KindAt a H kp kd∧HasK kd∧1≤n∧n≤8∧H rl=some (.lst xs)∧IsRoads H xs rs∧xs.length≤64∧(kd=.chances→∀ r∈rs,Sm 4000 r.w) ∧
 (startsOk kd n rs=true→∀ H',Same H H'→Q .non H')∧(startsOk kd n rs=false→∀ H',Same H H'→E (.ref a.cNoNet) none H')
theorem frm_take {p:Int} {rs:List Road} {i:Nat} {r:Road} (e:rs[i]?=some r):frm p (rs.take (i + 1))=if r.f=p then frm p (rs.take i) ++ [r.w] else frm p (rs.take i):=by
 unfold frm
 rw [List.take_add_one,e,List.filter_append,List.map_append]
 split
 ·rename_i h; simp [h]
 ·rename_i h; simp [h]
theorem sc_check_starts:FnScope ["kind","places","roads","place"] ["kind","places","roads"] (defScope (top 36)):=⟨rfl,rfl,rfl,by decide +kernel,rfl,by decide +kernel,by decide +kernel⟩
theorem d_check_starts (T : Tx K mg a) (V_may_start_together : Mth P w K mg base 36 a.cl "may_start_together" ["self", "somes"] (fun i => spMay a i.1)) (F : DefAt K mg "check_starts" (top 36)) : Dn P w K mg base 37 "check_starts" ["kind", "places", "roads"] (spStarts a) := by
  obtain ⟨f, fd, hm, F⟩ := F.ex
  refine ⟨f, fd, hm, F.kp, F.binds fun _ _ _ _ _ _ us hl => match us, hl with | [_, _, _], _ => rfl, ?_⟩
  refine F.okX sc_check_starts (fun vs H Q E h => ?_) (fun cdv A outer s H vs Q E hr h => ?_)
  · obtain ⟨_, _, _, _, _, _, rfl, _⟩ := h
    rfl
  · obtain ⟨kd, kp, n, rl, xs, rs, rfl, ⟨dx, hk⟩, hK, n1, n8, hx, hR, h64, sm, q, e⟩ := h
    refine ⟨_, (pss_one (ps_for own_cx rfl (pi_range1 rfl T.b_range (pa_cons (hs := st_Name) (pv 1) pa_nil)) (pg_name (i := 3) sc_check_starts.nd rfl (Or.inr rfl)) (pss_one (ps_if (pt_not (pt_val (pe_methV (pv 0) V_may_start_together (hr.mono (by decide)) pass_cx (pa_cons (hs := st_ListComp) (pe_comp (N := ["kind", "places", "roads", "place"]) (osc := defScope (top 36)) (k := 1) (N' := ["road", "place"]) (fr := [3]) ⟨rfl, by decide +kernel, by decide +kernel, by decide +kernel, rfl, by decide +kernel, by decide +kernel⟩ rfl rfl rfl (pi_list (pv 2)) (fun ca => ⟨(pg_name (i := 0) (show List.Nodup (["road", "place"] : List Str) from by decide +kernel) rfl (Or.inl rfl)), (pts_one (pt_cmpR op_eq (pe_ix ix_tup (pv 0) pe_int (fun _ _ => rfl)) (pv 1) (nomark _))), (pe_ix ix_tup (pv 0) pe_int (fun _ _ => rfl))⟩)) pa_nil)) (fun _ => rfl))) (pss_one (ps_raise T.x_NoNet rfl rfl rais_cx (pa_cons (hs := st_JoinedStr) (pe_fstrN (pj_str (pj_int (pv 3) (pj_str pj_nil)))) pa_nil))) pss_nil)))), ?_⟩
    have hs1 : (Str.ofString "the roads that go from place ").length ≤ 1000 := by decide +kernel
    have hs2 : (Str.ofString " come to more than 1").length ≤ 1000 := by decide +kernel
    have hl := hR.length
    refine ⟨_, rfl, n, rfl, by omega, by omega, for_range (n := n.toNat) (fun i σ H' => ∃ u, σ = [some (.ref kp), some (.int n), some (.ref rl), u] ∧ Same H H' ∧ (List.range i).all (fun p => mayB kd (frm (p : Int) rs)) = true) ⟨_, rfl, Same.refl H, by simp⟩ ?_ ?_⟩
    · rintro i σ H' hi ⟨u, rfl, s', al⟩
      refine ⟨_, rfl, ⟨kd, hK⟩, kp, dx, _, rfl, s' _ _ hk, kfs_no _ (by decide +kernel), ?_⟩
      refine ⟨_, rfl, rl, rfl, ⟨xs, SqL.of (s' _ _ hx)⟩, comp_list (xs := xs) (fun j ys H2 => Same H H2 ∧ IsWs H2 ys (frm (0 + (i : Nat)) (rs.take j))) (lines (by omega)) ⟨s', by simp [frm]; exact .nil⟩ (fun j ys H2 _ ⟨s2, _⟩ => SqL.of (s2 _ _ hx)) ?_ ?_⟩
      · rintro j x ys H2 ex ⟨s2, hy⟩ ca
        obtain ⟨r, er, pr, wv, rfl, e2, e3⟩ := pget hR ex
        refine ⟨⟨rfl, rfl⟩, _, rfl, pr, _, _, _, rfl, rfl, SqT.of (s2 _ _ e2), rfl, _, rfl, rfl, _, rfl, iteEqI (fun c => ?_) (fun c => ?_)⟩
        · refine ⟨_, rfl, pr, _, _, _, rfl, rfl, SqT.of (s2 _ _ e2), rfl, s2, ?_⟩
          rw [frm_take er, if_pos c]
          exact hy.snoc (e3.same s2)
        · refine ⟨s2, ?_⟩
          rw [frm_take er, if_neg c]
          exact hy
      · rintro ys H2 ⟨s2, hy⟩ lp nl
        rw [hl, List.take_length] at hy
        have s3 : Same H (upd H2 lp (.lst ys)) := s2.trans (same_one nl)
        have fl := frm_len (0 + (i : Nat)) rs
        refine ⟨kp, lp, ys, frm (0 + (i : Nat)) rs, rfl, ⟨dx, s3 _ _ hk⟩, upd_same, hy.same (same_one nl), by omega, fun ec x hx' => ?_, fun H4 s4 => ⟨_, rfl, ?_⟩⟩
        · obtain ⟨r, hr', rfl⟩ := List.mem_map.mp hx'
          exact sm ec r (List.mem_filter.mp hr').1
        · have s5 := s3.trans s4
          have ei : (0 + (i : Int)) = (i : Int) := by omega
          cases c : mayB kd (frm (0 + (i : Nat)) rs) with
          | true =>
            refine iteF ⟨_, rfl, s5, ?_⟩
            rw [List.range_succ, List.all_append, al]
            rw [ei] at c
            simp [c]
          | false =>
            refine iteT ⟨hs1, _, rfl, _, rfl, log2_small (by have : (8 : Nat) < 10 ^ 62 := by decide
                                                             omega), hs2, fun z => ⟨by show 1 ≤ sizeLine; decide, e ?_ _ s5⟩⟩
            rw [startsOk, List.all_eq_false]
            rw [ei] at c
            exact ⟨i, List.mem_range.mpr hi, by simp [c]⟩
    · rintro σ H' ⟨u, rfl, s', al⟩
      exact q al _ s'
def spWorths (a:Adr):Sp:=fun vs H Q E=>∃ (kd:Kd) (kp:Addr) (rl:Addr) (xs:List V) (rs:List Road),vs=[.ref kp,.ref rl]∧KindAt a H kp kd∧HasK kd∧KdOk kd∧H rl=some (.lst xs)∧IsRoads H xs rs∧xs.length≤64 ∧
 (worthsOk kd rs=true→∀ H',Same H H'→Q .non H')∧(worthsOk kd rs=false→∀ H',Same H H'→E (.ref a.cNoWorth) none H')
theorem sc_check_worths:FnScope ["kind","roads","number","road"] ["kind","roads"] (defScope (top 37)):=⟨rfl,rfl,rfl,by decide +kernel,rfl,by decide +kernel,by decide +kernel⟩
theorem d_check_worths (T : Tx K mg a) (V_is_worth : Mth P w K mg base 3 a.cl "is_worth" ["self", "some"] (fun i => spIsWorth a i.1)) (F : DefAt K mg "check_worths" (top 37)) : Dn P w K mg base 4 "check_worths" ["kind", "roads"] (spWorths a) := by
  obtain ⟨f, fd, hm, F⟩ := F.ex
  refine ⟨f, fd, hm, F.kp, F.binds fun _ _ _ _ _ _ us hl => match us, hl with | [_, _], _ => rfl, ?_⟩
  refine F.okX sc_check_worths (fun vs H Q E h => ?_) (fun cdv A outer s H vs Q E hr h => ?_)
  · obtain ⟨_, _, _, _, _, rfl, _⟩ := h
    rfl
  · obtain ⟨kd, kp, rl, xs, rs, rfl, ⟨dx, hk⟩, hK, ok, hx, hR, h64, q, e⟩ := h
    refine ⟨_, (pss_one (ps_for own_cx rfl (pi_enum rfl T.b_enumerate (pa_cons (hs := st_Name) (pv 1) pa_nil)) (pg_tup rfl (pgs_cons (pg_name (i := 2) sc_check_worths.nd rfl (Or.inl rfl)) (pgs_cons (pg_name (i := 3) sc_check_worths.nd rfl (Or.inl rfl)) pgs_nil))) (pss_one (ps_if (pt_not (pt_val (pe_methV (pv 0) V_is_worth (hr.mono (by decide)) pass_cx (pa_cons (hs := st_Subscript) (pe_ix ix_tup (pv 3) pe_int (fun _ _ => rfl)) pa_nil)) (fun _ => rfl))) (pss_one (ps_raise T.x_NoWorth rfl rfl rais_cx (pa_cons (hs := st_JoinedStr) (pe_fstrN (pj_str (pj_int (pv 2) (pj_str pj_nil)))) pa_nil))) pss_nil)))), ?_⟩
    have hs1 : (Str.ofString "the worth of road ").length ≤ 1000 := by decide +kernel
    have hs2 : (Str.ofString " is none of the kind").length ≤ 1000 := by decide +kernel
    have hl := hR.length
    refine ⟨_, rfl, rl, rfl, ⟨xs, SqL.of hx⟩, for_enum (xs := xs) (fun i σ H' => ∃ u v, σ = [some (.ref kp), some (.ref rl), u, v] ∧ Same H H' ∧ worthsOk kd (rs.take i) = true) ⟨_, _, rfl, Same.refl H, by simp [worthsOk]⟩ (fun i σ H' _ ⟨_, _, _, s', _⟩ => SqL.of (s' _ _ hx)) ?_ ?_⟩
    · rintro i x σ H' p ex ⟨u, v, rfl, s', al⟩ np
      obtain ⟨r, er, pr, wv, rfl, e2, e3⟩ := pget hR ex
      have s2 : Same H (upd H' p (.tup [.int (i : Nat), .ref pr])) := s'.trans (same_one np)
      have hi : i < xs.length := (List.getElem?_eq_some_iff.mp ex).1
      refine ⟨p, _, rfl, SqT.of upd_same, rfl, _, _, rfl, _, _, rfl, rfl, ?_⟩
      refine ⟨_, rfl, ⟨kd, hK⟩, kp, dx, _, rfl, s2 _ _ hk, kfs_no _ (by decide +kernel), _, rfl, pr, _, _, _, rfl, rfl, SqT.of (s2 _ _ e2), rfl, kp, wv, r.w, rfl, ⟨dx, s2 _ _ hk⟩, ok, e3.same s2, _, rfl, ?_⟩
      cases c : isWorth kd r.w with
      | true => exact iteF ⟨_, _, rfl, s2, all_take al er c⟩
      | false =>
        refine iteT ⟨hs1, _, rfl, _, rfl, log2_small (by have : (64 : Nat) < 10 ^ 62 := by decide
                                                         omega), hs2, fun z => ⟨by show 1 ≤ sizeLine; decide, e ?_ _ s2⟩⟩
        exact all_not er c
    · rintro σ H' ⟨u, v, rfl, s', al⟩
      exact q (by rw [hl, List.take_length] at al; exact al) _ s'
end
end K15
namespace K15
open PySem L2 Ws
seal PE PT PW PA PC PS PSs PG PGs PI PO PJ PTs
section
variable {P : Program} {w : World} {K : W.Frag} {mg : Str → Option Value} {base : Heap} {a : Adr}
def SameBut (self:Addr) (H H':Hp):Prop:=∀ p o,p≠self→H p=some o→H' p=some o
def spNet (a:Adr):Sp:=fun vs H Q E=>∃ (self dx:Addr) (kd:Kd) (kp:Addr) (n:Int) (rl:Addr) (xs:List V) (rs:List Road),vs=[.ref self,.ref kp,.int n,.ref rl]∧H self=some (.ins a.cNet dx [])∧KindAt a H kp kd∧HasK kd∧KdOk kd∧kp≠self∧n.natAbs.log2 < 1920∧H rl=some (.lst xs)∧IsRoads H xs rs ∧
 (kd=.chances→xs.length≤64→∀ r∈rs,Sm 4000 r.w) ∧
 (netYes kd n rs=true→worthsOk kd rs=true→∀ tp H',SameBut self H H'→H' self=some (.ins a.cNet dx [("own_kind",.ref kp),("how_many",.int n),("own_roads",.ref tp)])→H' tp=some (.tup xs)→Q .non H') ∧
 (netYes kd n rs=false→∀ H',Same H H'→E (.ref a.cNoNet) none H')∧(netYes kd n rs=true→worthsOk kd rs=false→∀ H',Same H H'→E (.ref a.cNoWorth) none H')
theorem sc_Net_init:FnScope ["self","kind","places","roads"] ["self","kind","places","roads"] (defScope (inClass (top 39) 0)):=⟨rfl,rfl,rfl,by decide +kernel,rfl,by decide +kernel,by decide +kernel⟩
theorem make_Net (T:Tx K mg a) (D_check_numbers:Dn P w K mg base 1 "check_numbers" ["places","roads"] (spNums a)) (D_check_ends:Dn P w K mg base 1 "check_ends" ["places","roads"] (spEnds a))
  (D_check_starts:Dn P w K mg base 37 "check_starts" ["kind","places","roads"] (spStarts a)) (D_check_worths:Dn P w K mg base 4 "check_worths" ["kind","roads"] (spWorths a))
  (F:MthAt K a.cNet "__init__" "Net.__init__" (inClass (top 39) 0)):Mkr P w K mg base 38 "Net" a.cNet ["self","kind","places","roads"] (spNet a):=by
 obtain ⟨f,fd,hf,hi,F⟩:=F.ex
 refine ⟨T.g_Net,f,fd,⟨T.mk_Net,hf,hi,T.kp_Net⟩,F.binds fun _ _ _ _ _ _ us hl=>match us,hl with | [_,_,_,_],_=>rfl,?_⟩
 refine F.okX sc_Net_init (fun vs H Q E h=>?_) (fun cdv A outer s H vs Q E hr h=>?_)
 ·obtain ⟨_,_,_,_,_,_,_,_,rfl,_⟩:=h
  rfl
 ·obtain ⟨self,dx,kd,kp,n,rl,xs,rs,rfl,hself,⟨kdx,hk⟩,hK,ok,nk,hn,hx,hR,sm,q,e1,e2⟩:=h
  refine ⟨_,(pss_cons (ps_expr (pe_callD D_check_numbers (hr.mono (by decide)) rfl pass_cx (pa_cons (hs:=st_Name) (pv 2) (pa_cons (hs:=st_Name) (pv 3) pa_nil))))
   (pss_cons (ps_expr (pe_callD D_check_ends (hr.mono (by decide)) rfl pass_cx (pa_cons (hs:=st_Name) (pv 2) (pa_cons (hs:=st_Name) (pv 3) pa_nil))))
   (pss_cons (ps_expr (pe_callD D_check_starts (hr.mono (by decide)) rfl pass_cx (pa_cons (hs:=st_Name) (pv 1) (pa_cons (hs:=st_Name) (pv 2) (pa_cons (hs:=st_Name) (pv 3) pa_nil)))))
   (pss_cons (ps_expr (pe_callD D_check_worths (hr.mono (by decide)) rfl pass_cx (pa_cons (hs:=st_Name) (pv 1) (pa_cons (hs:=st_Name) (pv 3) pa_nil))))
   (pss_cons (ps_fld (pv 0) (pv 1) rfl)
   (pss_cons (ps_fld (pv 0) (pv 2) rfl)
   (pss_one (ps_fld (pv 0) (pe_callTy call_tuple_of rfl T.b_tuple bt_tuple (pa_cons (hs:=st_Name) (pv 3) pa_nil)) rfl)))))))),?_⟩
  have hl:=hR.length
  have no1:numsOk n xs.length=false→netYes kd n rs=false:=fun z=>by rw [netYes,← hl,z]; rfl
  refine ⟨_,rfl,_,rfl,n,rl,xs,rfl,hx,hn,fun y1=>?_,fun z=>e1 (no1 z) _ (Same.refl H)⟩
  have yy:=y1
  simp only [numsOk,Bool.and_eq_true,decide_eq_true_eq] at yy
  refine ⟨_,rfl,_,rfl,n,rl,xs,rs,rfl,hx,hR,by omega,fun y2 H1 s1=>?_,fun z H1 s1=>e1 (by rw [netYes,z]; simp) _ s1⟩
  refine ⟨_,rfl,_,rfl,_,rfl,kd,kp,n,rl,xs,rs,rfl,⟨kdx,s1 _ _ hk⟩,hK,by omega,by omega,s1 _ _ hx,hR.same s1,by omega,fun c=>sm c (by omega),fun y3 H2 s2=>?_,fun z H2 s2=>e1 (by rw [netYes,z]; simp) _ (s1.trans s2)⟩
  have yes:netYes kd n rs=true:=by rw [netYes,← hl,y1,y2,y3]; rfl
  have s12:=s1.trans s2
  refine ⟨_,rfl,_,rfl,kd,kp,rl,xs,rs,rfl,⟨kdx,s12 _ _ hk⟩,hK,ok,s12 _ _ hx,hR.same s12,by omega,fun y4 H3 s3=>?_,fun z H3 s3=>e2 yes z _ (s12.trans s3)⟩
  have s13:=s12.trans s3
  refine ⟨_,rfl,_,rfl,self,_,dx,[],rfl,s13 _ _ hself,T.cl_Net,T.na_Net_own_kind,(by show 0 < 1000; decide),?_⟩
  refine ⟨_,rfl,_,rfl,self,_,dx,_,rfl,upd_same,T.cl_Net,T.na_Net_how_many,(by show 1 < 1000; decide),?_⟩
  have nr:rl≠self:=ne_of hx hself (by intro z; cases z)
  refine ⟨_,rfl,rl,xs,rfl,.inl ⟨SqL.of (by rw [upd_ne nr,upd_ne nr]; exact s13 _ _ hx),fun tp ntp=>?_⟩⟩
  have nt:tp≠self:=fun z=>by rw [z,upd_same] at ntp; cases ntp
  refine ⟨_,rfl,self,_,dx,_,rfl,by rw [upd_ne (Ne.symm nt)]; exact upd_same,T.cl_Net,T.na_Net_own_roads,(by show 2 < 1000; decide),?_⟩
  refine q yes y4 tp _ (fun b o nb hb=>?_) upd_same ?_
  ·have:upd (upd H3 self (HO.ins a.cNet dx (putF (Str.ofString "own_kind") (V.ref kp) []))) self (HO.ins a.cNet dx (putF (Str.ofString "how_many") (V.int n) (putF (Str.ofString "own_kind") (V.ref kp) []))) b=some o:=by
    rw [upd_ne nb,upd_ne nb]; exact s13 _ _ hb
   rw [upd_ne nb,upd_ne (ne_of_none this ntp)]
   exact this
  ·rw [upd_ne nt]; exact upd_same
def spNKind (a:Adr):Sp:=fun vs H Q _=>∃ (p kp tp:Addr) (kd:Kd) (n:Nat) (xs:List V) (rs:List Road),vs=[.ref p]∧NetIs a H p kd n kp tp xs rs∧Q (.ref kp) H
def spNPlaces (a:Adr):Sp:=fun vs H Q _=>∃ (p kp tp:Addr) (kd:Kd) (n:Nat) (xs:List V) (rs:List Road),vs=[.ref p]∧NetIs a H p kd n kp tp xs rs∧Q (.int (n:Int)) H
def spNRoads (a:Adr):Sp:=fun vs H Q _=>∃ (p kp tp:Addr) (kd:Kd) (n:Nat) (xs:List V) (rs:List Road),vs=[.ref p]∧NetIs a H p kd n kp tp xs rs∧∀ l,H l=none→Q (.ref l) (upd H l (.lst xs))
theorem sc_Net_kind:FnScope ["self"] ["self"] (defScope (inClass (top 39) 1)):=⟨rfl,rfl,rfl,by decide +kernel,rfl,by decide +kernel,by decide +kernel⟩
theorem sc_Net_places:FnScope ["self"] ["self"] (defScope (inClass (top 39) 2)):=⟨rfl,rfl,rfl,by decide +kernel,rfl,by decide +kernel,by decide +kernel⟩
theorem sc_Net_roads:FnScope ["self"] ["self"] (defScope (inClass (top 39) 3)):=⟨rfl,rfl,rfl,by decide +kernel,rfl,by decide +kernel,by decide +kernel⟩
theorem n_of {m qual:Str} {st:Stmt} {ps:List Str} {k:Nat} {sp:Sp} (T:Tx K mg a) (F:MthAt K a.cNet m qual st)
  (hb:∀ (kV doc pm:Value) (an:Option Addr) (cdv ct:Value) (us:List Value),us.length=ps.length→bindArgs (W.fnOf m qual (defArgs st) (defBody st) (defScope st) .none kV doc pm an cdv ct) ⟨us,[]⟩=pure (ps.zip us))
  (h:∀ f fd,Fun K m qual st f fd→FnOk P w K mg base (CXE P w) k f fd ps sp):Mth P w K mg base k (fun _:Unit=>a.cNet) m ps (fun _=>sp):=by
 refine ⟨fun _=>?_⟩
 obtain ⟨f,fd,hf,hi,F⟩:=F.ex
 exact ⟨T.cl_Net,f,fd,⟨hf,hi,F.kp⟩,F.binds hb,h f fd F⟩
theorem v_kind (T:Tx K mg a) (F:MthAt K a.cNet "kind" "Net.kind" (inClass (top 39) 1)):Mth P w K mg base 1 (fun _:Unit=>a.cNet) "kind" ["self"] (fun _=>spNKind a) :=
 n_of T F (fun _ _ _ _ _ _ us hl=>match us,hl with | [_],_=>rfl) fun f fd F=>F.okN sc_Net_kind (fun vs H Q E h=>by obtain ⟨_,_,_,_,_,_,_,rfl,_⟩:=h; rfl) (fun cdv A outer s H vs Q E hr h=>by
  obtain ⟨p,kp,tp,kd,n,xs,rs,rfl,⟨⟨dx,hp⟩,_,_,_⟩,q⟩:=h
  exact ⟨_,(pss_one (ps_ret (pe_fld (pv 0) rfl))),⟨_,rfl,p,_,dx,_,_,rfl,hp,T.cl_Net,T.na_Net_own_kind,rfl,q⟩⟩)
theorem v_places (T:Tx K mg a) (F:MthAt K a.cNet "places" "Net.places" (inClass (top 39) 2)):Mth P w K mg base 1 (fun _:Unit=>a.cNet) "places" ["self"] (fun _=>spNPlaces a) :=
 n_of T F (fun _ _ _ _ _ _ us hl=>match us,hl with | [_],_=>rfl) fun f fd F=>F.okN sc_Net_places (fun vs H Q E h=>by obtain ⟨_,_,_,_,_,_,_,rfl,_⟩:=h; rfl) (fun cdv A outer s H vs Q E hr h=>by
  obtain ⟨p,kp,tp,kd,n,xs,rs,rfl,⟨⟨dx,hp⟩,_,_,_⟩,q⟩:=h
  exact ⟨_,(pss_one (ps_ret (pe_fld (pv 0) rfl))),⟨_,rfl,p,_,dx,_,_,rfl,hp,T.cl_Net,T.na_Net_how_many,rfl,q⟩⟩)
theorem v_roads (T:Tx K mg a) (F:MthAt K a.cNet "roads" "Net.roads" (inClass (top 39) 3)):Mth P w K mg base 1 (fun _:Unit=>a.cNet) "roads" ["self"] (fun _=>spNRoads a) :=
 n_of T F (fun _ _ _ _ _ _ us hl=>match us,hl with | [_],_=>rfl) fun f fd F=>F.okN sc_Net_roads (fun vs H Q E h=>by obtain ⟨_,_,_,_,_,_,_,rfl,_⟩:=h; rfl) (fun cdv A outer s H vs Q E hr h=>by
  obtain ⟨p,kp,tp,kd,n,xs,rs,rfl,⟨⟨dx,hp⟩,_,ht,_⟩,q⟩:=h
  exact ⟨_,(pss_one (ps_ret (pe_callTy call_list_of rfl T.b_list bt_list (pa_cons (hs:=st_Attribute) (pe_fld (pv 0) rfl) pa_nil)))),⟨_,rfl,p,_,dx,_,_,rfl,hp,T.cl_Net,T.na_Net_own_roads,rfl,tp,xs,rfl,.inr (SqT.of ht),q⟩⟩)
section
variable {H : Hp} {kd : Kd} {kp l : Addr} {n : Int} {xs : List V} {rs : List Road} {Q : Addr → Hp → Prop} {E : XK}
theorem mk_any (hk:KindAt a H kp kd) (hK:HasK kd) (ok:KdOk kd) (hl:H l=some (.lst xs)) (hR:IsRoads H xs rs) (hn:n.natAbs.log2 < 1920) (sm:kd=.chances→xs.length≤64→∀ r∈rs,Sm 4000 r.w)
  (q:netYes kd n rs=true→worthsOk kd rs=true→∀ x tp H',Same H H'→H x=none→NetIs a H' x kd n.toNat kp tp xs rs→Q x H') (e1:netYes kd n rs=false→∀ H',Same H H'→E (.ref a.cNoNet) none H') (e2:netYes kd n rs=true→worthsOk kd rs=false→∀ H',Same H H'→E (.ref a.cNoWorth) none H') :
  ∀ x dx,H x=none→H dx=none→dx≠x→spNet a [.ref x,.ref kp,.int n,.ref l] (upd (upd H dx (.own x)) x (.ins a.cNet dx [])) (fun v H2=>v=.non∧Q x H2) E:=by
 intro x dx nx ndx nex
 have s2:Same H (upd (upd H dx (.own x)) x (.ins a.cNet dx [])):=same_two nx ndx
 obtain ⟨kdx,hkp⟩:=hk
 refine ⟨x,dx,kd,kp,n,l,xs,rs,rfl,upd_same,⟨kdx,s2 _ _ hkp⟩,hK,ok,ne_of_none hkp nx,hn,s2 _ _ hl,hR.same s2,sm,fun y1 y2 tp H' sb hs ht=>⟨rfl,?_⟩,fun z H' s'=>e1 z H' (s2.trans s'),fun y z H' s'=>e2 y z H' (s2.trans s')⟩
 have s3:Same H H':=fun p o e=>sb p o (ne_of_none e nx) (s2 p o e)
 have n0:1≤n:=by
  simp only [netYes,numsOk,Bool.and_eq_true,decide_eq_true_eq] at y1
  exact y1.1.1.1
 refine q y1 y2 x tp H' s3 nx ⟨⟨dx,?_⟩,⟨kdx,s3 _ _ hkp⟩,ht,hR.same s3⟩
 rw [show ((n.toNat:Nat):Int)=n by omega]
 exact hs
end
end
end K15
namespace K15
open PySem L2 Ws
seal PE PT PW PA PC PS PSs PG PGs PI PO PJ PTs
theorem IsW.st {H H':Hp} (e:STup H H'):∀ {v:V} {w:Wd},IsW H v w→IsW H' v w
 | .non,.non,_=>True.intro
 | .int _,.int _,h=>h
 | .ref _,.pair _ _,h=>e _ _ h
section
variable {P : Program} {w : World} {K : W.Frag} {mg : Str → Option Value} {base : Heap} {a : Adr}
theorem modlt {i:Int} {m:Nat} (h:0 < m):∃ k:Nat,i % (m:Int)=k∧k < m:=⟨(i % m).toNat,by have:=Int.emod_nonneg i (show (m:Int)≠0 by omega); omega,by have:=Int.emod_lt_of_pos i (show (0:Int) < m by omega); have:=Int.emod_nonneg i (show (m:Int)≠0 by omega); omega⟩
end
end K15
namespace K15
open PySem L2 Ws
seal PE PT PW PA PC PS PSs PG PGs PI PO PJ PTs
section
variable {P : Program} {w : World} {K : W.Frag} {mg : Str → Option Value} {base : Heap} {a : Adr}
def spPlace (a:Adr):Sp:=fun vs H Q E=>∃ (np:Addr) (p:Int) (kd:Kd) (n:Nat) (kp tp:Addr) (xs:List V) (rs:List Road),vs=[.ref np,.int p]∧NetIs a H np kd n kp tp xs rs∧p.natAbs < 10 ^ 62∧(0≤p∧p < n→Q .non H)∧(¬ (0≤p∧p < n)→E (.ref a.cNoPlace) none H)
theorem sc_check_place:FnScope ["net","place"] ["net","place"] (defScope (top 38)):=⟨rfl,rfl,rfl,by decide +kernel,rfl,by decide +kernel,by decide +kernel⟩
theorem d_check_place (T:Tx K mg a) (V_places:Mth P w K mg base 1 (fun _:Unit=>a.cNet) "places" ["self"] (fun _=>spNPlaces a)) (F:DefAt K mg "check_place" (top 38)):Dn P w K mg base 2 "check_place" ["net","place"] (spPlace a):=by
 obtain ⟨f,fd,hm,F⟩:=F.ex
 refine ⟨f,fd,hm,F.kp,F.binds fun _ _ _ _ _ _ us hl=>match us,hl with | [_,_],_=>rfl,?_⟩
 refine F.okX sc_check_place (fun vs H Q E h=>?_) (fun cdv A outer s H vs Q E hr h=>?_)
 ·obtain ⟨_,_,_,_,_,_,_,_,rfl,_⟩:=h
  rfl
 ·obtain ⟨np,p,kd,n,kp,tp,xs,rs,rfl,N,hp,q,e⟩:=h
  refine ⟨_,(pss_one (ps_if (PW.pt (pw_or (pt_cmpR op_lt (pv 1) pe_int (nomark _)) (pw_or1 (pt_cmpR op_ge (pv 1) (pe_methV0 (pv 0) V_places (hr.mono (by decide)) pass_cx) (nomark _))))) (pss_one (ps_raise T.x_NoPlace rfl rfl rais_cx (pa_cons (hs:=st_JoinedStr) (pe_fstrN (pj_int (pv 1) (pj_str pj_nil))) pa_nil))) pss_nil)),?_⟩
  have hs:(Str.ofString " is no place of the net").length≤1000:=by decide +kernel
  obtain ⟨dx,hx⟩:=N.ins
  refine ⟨_,rfl,_,_,rfl,rfl,_,rfl,iteD (fun c=>?_) (fun c=>?_)⟩
  ·exact ⟨_,rfl,_,rfl,log2_small hp,hs,fun z=>⟨by show 1≤sizeLine; decide,e (by omega)⟩⟩
  ·refine ⟨_,rfl,_,rfl,(),np,dx,_,rfl,hx,rfl,np,kp,tp,kd,n,xs,rs,rfl,N,_,_,rfl,rfl,_,rfl,iteD (fun c2=>?_) (fun c2=>?_)⟩
   ·exact ⟨_,rfl,_,rfl,log2_small hp,hs,fun z=>⟨by show 1≤sizeLine; decide,e (by omega)⟩⟩
   ·exact q (by omega)
def spWalk (a:Adr):Sp:=fun vs H Q E=>∃ (np:Addr) (p:Int) (kd:Kd) (ok:KdOk kd) (n:Nat) (kp tp:Addr) (xs:List V) (es:List (Edge (Car kd))) (rl:Addr) (row:List Int),vs=[.ref np,.int p,.ref rl]∧NetIs a H np kd n kp tp xs (es.map (Edge.road kd))∧HasK kd∧Graph kd n es∧H rl=some (.lst (row.map V.int))∧row.length≤100 ∧
 p.natAbs < 10 ^ 62∧(∀ k∈row,k.natAbs < 10 ^ 62)∧(¬ (0≤p∧p < n)→∀ H',Same H H'→E (.ref a.cNoPlace) none H') ∧
 (0≤p∧p < n→walkE (ks kd ok) es p.toNat (ks kd ok).one row=none→∀ H',Same H H'→E (.ref a.cNoRoad) none H') ∧
 (0≤p∧p < n→∀ h y,walkE (ks kd ok) es p.toNat (ks kd ok).one row=some (h,y)→∀ t v H',Same H H'→H' t=some (.tup [.int (h:Nat),v])→IsW H' v (enc kd y)→Q (.ref t) H')
theorem sc_worth_of:FnScope ["net","place","row","kind","roads","here","worth","number","road"] ["net","place","row"] (defScope (top 42)):=⟨rfl,rfl,rfl,by decide +kernel,rfl,by decide +kernel,by decide +kernel⟩
theorem d_worth_of (T:Tx K mg a) (D_check_place:Dn P w K mg base 2 "check_place" ["net","place"] (spPlace a)) (V_kind:Mth P w K mg base 1 (fun _:Unit=>a.cNet) "kind" ["self"] (fun _=>spNKind a)) (V_roads:Mth P w K mg base 1 (fun _:Unit=>a.cNet) "roads" ["self"] (fun _=>spNRoads a))
  (V_rest:Mth P w K mg base 1 a.cl "rest" ["self"] (fun i=>spOne a i.1)) (V_behind:Mth P w K mg base 35 a.cl "behind" ["self","one","other"] (fun i=>spMul a i.1)) (F:DefAt K mg "worth_of" (top 42)):Dn P w K mg base 36 "worth_of" ["net","place","row"] (spWalk a):=by
 obtain ⟨f,fd,hm,F⟩:=F.ex
 refine ⟨f,fd,hm,F.kp,F.binds fun _ _ _ _ _ _ us hl=>match us,hl with | [_,_,_],_=>rfl,?_⟩
 refine F.okX sc_worth_of (fun vs H Q E h=>?_) (fun cdv A outer s H vs Q E hr h=>?_)
 ·obtain ⟨_,_,_,_,_,_,_,_,_,_,_,rfl,_⟩:=h
  rfl
 ·obtain ⟨np,p,kd,ok,n,kp,tp,xs,es,rl,row,rfl,N,hK,G,hrow,hlen,hp,hks,e1,e2,q⟩:=h
  refine ⟨_,(pss_cons (ps_expr (pe_callD D_check_place (hr.mono (by decide)) rfl pass_cx (pa_cons (hs:=st_Name) (pv 0) (pa_cons (hs:=st_Name) (pv 1) pa_nil))))
   (pss_cons (ps_set (i:=3) sc_worth_of.nd rfl (Or.inl rfl) (pe_methV0 (pv 0) V_kind (hr.mono (by decide)) pass_cx))
   (pss_cons (ps_set (i:=4) sc_worth_of.nd rfl (Or.inl rfl) (pe_methV0 (pv 0) V_roads (hr.mono (by decide)) pass_cx))
   (pss_cons (ps_set (i:=5) sc_worth_of.nd rfl (Or.inl rfl) (pv 1))
   (pss_cons (ps_set (i:=6) sc_worth_of.nd rfl (Or.inl rfl) (pe_methV0 (pv 3) V_rest (hr.mono (by decide)) pass_cx))
   (pss_cons (ps_for own_cx rfl (pi_list (pv 2)) (pg_name (i:=7) sc_worth_of.nd rfl (Or.inl rfl)) (pss_cons (ps_if (PW.pt (pw_or (pt_cmpR op_lt (pv 7) pe_int (nomark _)) (pw_or1 (pt_cmpR op_ge (pv 7) (pe_callB call_len_seq rfl T.b_len bt_len (pa_cons (hs:=st_Name) (pv 4) pa_nil)) (nomark _))))) (pss_one (ps_raise T.x_NoRoad rfl rfl rais_cx (pa_cons (hs:=st_JoinedStr) (pe_fstrN (pj_int (pv 7) (pj_str pj_nil))) pa_nil))) pss_nil)
   (pss_cons (ps_set (i:=8) sc_worth_of.nd rfl (Or.inl rfl) (pe_ix ix_list (pv 4) (pv 7) (fun _ _=>rfl)))
   (pss_cons (ps_if (pt_cmpR op_ne (pe_ix ix_tup (pv 8) pe_int (fun _ _=>rfl)) (pv 5) (nomark _)) (pss_one (ps_raise T.x_NoRoad rfl rfl rais_cx (pa_cons (hs:=st_JoinedStr) (pe_fstrN (pj_str (pj_int (pv 7) (pj_str (pj_int (pv 5) pj_nil))))) pa_nil))) pss_nil)
   (pss_cons (ps_set (i:=5) sc_worth_of.nd rfl (Or.inl rfl) (pe_ix ix_tup (pv 8) pe_int (fun _ _=>rfl)))
   (pss_one (ps_set (i:=6) sc_worth_of.nd rfl (Or.inl rfl) (pe_methV (pv 3) V_behind (hr.mono (by decide)) pass_cx (pa_cons (hs:=st_Name) (pv 6) (pa_cons (hs:=st_Subscript) (pe_ix ix_tup (pv 8) pe_int (fun _ _=>rfl)) pa_nil))))))))))
   (pss_one (ps_ret (pe_tup (pa_cons (hs:=st_Name) (pv 5) (pa_cons (hs:=st_Name) (pv 6) pa_nil))))))))))),?_⟩
  have hs1:(Str.ofString " is no road of the net").length≤1000:=by decide +kernel
  have hs2:(Str.ofString "road ").length≤1000:=by decide +kernel
  have hs3:(Str.ofString " doesn't go from place ").length≤1000:=by decide +kernel
  refine ⟨_,rfl,_,rfl,np,p,kd,n,kp,tp,xs,_,rfl,N,hp,fun hin=>?_,fun z=>e1 z _ (Same.refl H)⟩
  obtain ⟨dx,hx⟩:=N.ins
  obtain ⟨kdx,hk⟩:=N.kind
  refine ⟨_,rfl,(),np,dx,_,rfl,hx,rfl,np,kp,tp,kd,n,xs,_,rfl,N,?_⟩
  refine ⟨_,rfl,(),np,dx,_,rfl,hx,rfl,np,kp,tp,kd,n,xs,_,rfl,N,fun rd nr=>?_⟩
  have s1:=same_one (o:=.lst xs) nr
  refine ⟨_,rfl,?_⟩
  refine ⟨_,rfl,⟨kd,hK⟩,kp,kdx,_,rfl,s1 _ _ hk,kfs_no _ (by decide +kernel),kp,ok,rfl,⟨kdx,s1 _ _ hk⟩,fun v0 H2 s2 w2=>?_⟩
  have s02:=s1.trans s2
  have hrd:=s2 rd _ upd_same
  have hR:=N.rds
  have hl:xs.length=es.length:=by rw [hR.length,List.length_map]
  obtain ⟨p0,rfl⟩:∃ p0:Nat,p=p0:=⟨p.toNat,by omega⟩
  rw [Int.toNat_natCast] at e2 q
  refine ⟨_,rfl,rl,rfl,⟨_,SqL.of (s02 _ _ hrow)⟩,for_list (xs:=row.map V.int) (fun i σ H'=>∃ (here:Nat) (x:Car kd) (v:V) (o7 o8:Option V),σ=[some (.ref np),some (.int (p0:Int)),some (.ref rl),some (.ref kp),some (.ref rd),some (.int (here:Int)),some v,o7,o8]∧Same H2 H'∧IsW H' v (enc kd x)∧Sm (212 * i + 30) (enc kd x)∧here < n ∧
   walkE (ks kd ok) es here x (row.drop i)=walkE (ks kd ok) es p0 (ks kd ok).one row) ⟨p0,_,v0,_,_,rfl,Same.refl H2,w2,sm_one kd ok,by omega,rfl⟩ (fun i σ H' _ ⟨_,_,_,_,_,_,s',_⟩=>SqL.of (s' _ _ (s02 _ _ hrow))) ?_ ?_⟩
  ·rintro i x σ H' ex ⟨here,y,v,o7,o8,rfl,s',hv,sv,hh,hw⟩
   rw [List.getElem?_map] at ex
   obtain ⟨k,ek,rfl⟩:∃ k,row[i]?=some k∧V.int k=x:=by
    cases e:row[i]? with
    | none=>rw [e] at ex; cases ex
    | some k=>rw [e] at ex; exact ⟨k,rfl,Option.some.inj ex⟩
   have hi:i < row.length:=(List.getElem?_eq_some_iff.mp ek).1
   have kk:=hks k (List.mem_of_getElem? ek)
   have edr:row.drop i=k :: row.drop (i + 1):=by
    rw [List.drop_eq_getElem_cons hi,(List.getElem?_eq_some_iff.mp ek).2]
   rw [edr] at hw
   have ss:=s02.trans s'
   have bad:k < 0∨(es.length:Int)≤k→E (.ref a.cNoRoad) none H':=fun z=>e2 ⟨by omega,by omega⟩ (by rw [← hw,walkE,if_pos z]) _ ss
   refine ⟨_,rfl,_,_,rfl,rfl,_,rfl,iteD (fun c=>?_) (fun c=>?_)⟩
   ·exact ⟨_,rfl,_,rfl,log2_small kk,hs1,fun z=>⟨by show 1≤sizeLine; decide,bad (.inl c)⟩⟩
   refine ⟨_,rfl,_,rfl,rd,_,rfl,.inl (SqL.of (s' _ _ hrd)),_,_,rfl,rfl,_,rfl,iteD (fun c2=>?_) (fun c2=>?_)⟩
   ·exact ⟨_,rfl,_,rfl,log2_small kk,hs1,fun z=>⟨by show 1≤sizeLine; decide,bad (.inr (by omega))⟩⟩
   obtain ⟨k,rfl⟩:∃ j:Nat,k=j:=⟨k.toNat,by omega⟩
   have lk:k < es.length:=by omega
   have ee:es[k]?=some es[k]:=List.getElem?_eq_getElem lk
   have exk:xs[k]?=some (xs[k]'(by omega)):=List.getElem?_eq_getElem (by omega)
   obtain ⟨r,er,pr,wv,epr,f2,f3⟩:=pget hR exk
   rw [List.getElem?_map,ee] at er
   obtain rfl:Edge.road kd es[k]=r:=Option.some.inj er
   rw [walkE,if_neg (by omega),Int.toNat_natCast,ee] at hw
   dsimp only at hw
   refine ⟨_,rfl,_,rfl,rd,_,_,_,rfl,rfl,SqL.of (s' _ _ hrd),atI_nat exk,?_⟩
   dsimp only [gName]
   rw [epr]
   have g2:=ss _ _ f2
   refine ⟨_,rfl,pr,_,_,_,rfl,rfl,SqT.of g2,rfl,_,rfl,rfl,_,rfl,iteNeI (fun c3=>?_) (fun c3=>?_)⟩
   ·have c3:es[k].f≠here:=fun z=>c3 (by show ((es[k].f:Nat):Int)=here; omega)
    rw [if_neg c3] at hw
    refine ⟨hs2,_,rfl,_,rfl,log2_small kk,hs3,_,rfl,_,rfl,log2_small ?_,fun z=>⟨by show 1≤sizeLine; decide,e2 ⟨by omega,by omega⟩ hw.symm _ ss⟩⟩
    have b8:(8:Nat) < 10 ^ 62:=by decide
    have:=G.nb
    omega
   ·have c3:es[k].f=here:=by have c3:((es[k].f:Nat):Int)=here:=c3; omega
    rw [if_pos c3] at hw
    refine ⟨_,rfl,pr,_,_,_,rfl,rfl,SqT.of g2,rfl,?_⟩
    refine ⟨_,rfl,⟨kd,hK⟩,kp,kdx,_,rfl,ss _ _ hk,kfs_no _ (by decide +kernel),_,rfl,_,rfl,pr,_,_,_,rfl,rfl,SqT.of g2,rfl,?_⟩
    have sme:=G.sm es[k] (List.getElem_mem lk)
    refine ⟨kp,v,wv,ok,y,es[k].c,rfl,⟨kdx,ss _ _ hk⟩,hv,f3.same ss,sv.mono (by show _≤16000000; omega),sme.mono (by decide),fun v3 H3 s3 w3=>?_⟩
    exact ⟨es[k].t,_,v3,_,_,rfl,s'.trans s3,w3,(sm_mul sv sme).mono (by omega),(G.ends _ (List.getElem_mem lk)).2,hw⟩
  ·rintro σ H' ⟨here,y,v,o7,o8,rfl,s',hv,sv,hh,hw⟩
   rw [List.length_map,List.drop_length] at hw
   refine ⟨_,rfl,_,rfl,(by show 2≤sizeLine; decide),fun t nt=>?_⟩
   exact q ⟨by omega,by omega⟩ here y hw.symm t v _ ((s02.trans s').trans (same_one nt)) upd_same (hv.same (same_one nt))
end
end K15
namespace K15
open PySem L2 Ws
seal PE PT PW PA PC PS PSs PG PGs PI PO PJ PTs
def IsVec (H:Hp) (kd:Kd) (B n:Nat) (ys:List V) (f:Nat→Car kd):Prop:=ys.length=n∧∀ i,i < n→∃ v,ys[i]?=some v∧IsW H v (enc kd (f i))∧Sm B (enc kd (f i))
theorem IsVec.st {H H':Hp} {kd:Kd} {B n:Nat} {ys:List V} {f:Nat→Car kd} (e:STup H H') (h:IsVec H kd B n ys f):IsVec H' kd B n ys f:=⟨h.1,fun i hi=>let ⟨v,a,b,c⟩:=h.2 i hi; ⟨v,a,b.st e,c⟩⟩
theorem IsVec.eq {H:Hp} {kd:Kd} {B n:Nat} {ys:List V} {f g:Nat→Car kd} (h:IsVec H kd B n ys f) (e:∀ i,i < n→f i=g i):IsVec H kd B n ys g:=⟨h.1,fun i hi=>by rw [← e i hi]; exact h.2 i hi⟩
theorem IsVec.set {H:Hp} {kd:Kd} {B n t:Nat} {ys:List V} {f:Nat→Car kd} {v:V} {x:Car kd} (h:IsVec H kd B n ys f) (hv:IsW H v (enc kd x)) (sv:Sm B (enc kd x)):IsVec H kd B n (ys.set t v) (fun i=>if i=t then x else f i):=by
 refine ⟨by rw [List.length_set]; exact h.1,fun i hi=>?_⟩
 by_cases c:i=t
 ·subst c
  exact ⟨v,by rw [List.getElem?_set_self (by rw [h.1]; exact hi)],by show IsW H v (enc kd (if i=i then x else f i)); rw [if_pos rfl]; exact hv,by show Sm B (enc kd (if i=i then x else f i)); rw [if_pos rfl]; exact sv⟩
 ·obtain ⟨u,a,b,d⟩:=h.2 i hi
  exact ⟨u,by rw [List.getElem?_set_ne (Ne.symm c)]; exact a,by show IsW H u (enc kd (if i=t then x else f i)); rw [if_neg c]; exact b,by show Sm B (enc kd (if i=t then x else f i)); rw [if_neg c]; exact d⟩
theorem IsVec.rep {H:Hp} {kd:Kd} {B n:Nat} {v:V} {x:Car kd} (hv:IsW H v (enc kd x)) (sv:Sm B (enc kd x)):IsVec H kd B n (List.replicate n v) (fun _=>x) :=
 ⟨List.length_replicate,fun i hi=>⟨v,by rw [List.getElem?_replicate,if_pos hi],hv,sv⟩⟩
theorem ixN_nat {n j:Nat} (h:j < n):ixN n (j:Int)=some j:=by
 unfold ixN
 rw [if_pos (by omega),if_pos (by omega)]; simp
theorem rep_flat (x:V) (k:Nat):(List.replicate k [x]).flatten=List.replicate k x:=by
 induction k with
 | zero=>rfl
 | succ k ih=>rw [List.replicate_succ,List.flatten_cons,ih]; rfl
section
variable {P : Program} {w : World} {K : W.Frag} {mg : Str → Option Value} {base : Heap} {a : Adr}
theorem stepV_take {S:Type} {M:KSR S} {es:List (Edge S)} {j:Nat} {e:Edge S} (h:es[j]?=some e) (f:Nat→S) (t:Nat):stepV M (es.take (j + 1)) f t=if t=e.t then M.add (stepV M (es.take j) f t) (M.mul (f e.f) e.c) else stepV M (es.take j) f t:=by
 unfold stepV
 rw [List.take_add_one,h,Option.toList_some,List.map_append,List.map_singleton,M.sum_snoc]
 unfold KSR.when
 by_cases c:t=e.t
 ·rw [if_pos c.symm,if_pos c]
 ·rw [if_neg (Ne.symm c),if_neg c,M.add_zero]
end
end K15
namespace K15
open PySem L2 Ws
seal PE PT PW PA PC PS PSs PG PGs PI PO PJ PTs
abbrev TB:Nat:=2100000
structure IsMat (H:Hp) (kd:Kd) (n:Nat) (rl:Addr) (rs:List Addr) (A:Mat (Car kd)):Prop where
 top:H rl=some (.lst (rs.map V.ref))
 len:rs.length=n
 nd:rs.Nodup
 off:rl ∉ rs
 row:∀ i r,rs[i]?=some r→∃ ys,H r=some (.lst ys)∧IsVec H kd TB n ys (A i)
theorem IsMat.same {H H':Hp} {kd:Kd} {n:Nat} {rl:Addr} {rs:List Addr} {A:Mat (Car kd)} (e:Same H H') (h:IsMat H kd n rl rs A):IsMat H' kd n rl rs A :=
 ⟨e _ _ h.top,h.len,h.nd,h.off,fun i r hi=>let ⟨ys,a,b⟩:=h.row i r hi; ⟨ys,e _ _ a,b.st (same_st e)⟩⟩
theorem IsMat.eq {H:Hp} {kd:Kd} {n:Nat} {rl:Addr} {rs:List Addr} {A B:Mat (Car kd)} (h:IsMat H kd n rl rs A) (e:∀ i j,i < n→j < n→A i j=B i j):IsMat H kd n rl rs B :=
 ⟨h.top,h.len,h.nd,h.off,fun i r hi=>let ⟨ys,a,b⟩:=h.row i r hi; ⟨ys,a,b.eq fun j hj=>e i j (by have:=(List.getElem?_eq_some_iff.mp hi).1; rw [h.len] at this; exact this) hj⟩⟩
theorem nd_at {rs:List Addr} (h:rs.Nodup) {i j:Nat} {r:Addr} (a:rs[i]?=some r) (b:rs[j]?=some r):i=j:=by
 have li:=(List.getElem?_eq_some_iff.mp a).1
 exact (List.getElem?_inj li h).mp (a.trans b.symm)
theorem IsMat.set {H:Hp} {kd:Kd} {n:Nat} {rl r:Addr} {rs:List Addr} {A:Mat (Car kd)} {i t:Nat} {ys:List V} {v:V} {x:Car kd} (h:IsMat H kd n rl rs A) (hi:rs[i]?=some r) (hy:H r=some (.lst ys)) (hv:IsW H v (enc kd x)) (sv:Sm TB (enc kd x)) :
  IsMat (upd H r (.lst (ys.set t v))) kd n rl rs (fun a b=>if a=i∧b=t then x else A a b):=by
 have hrl:rl≠r:=fun z=>h.off (z ▸ List.mem_of_getElem? hi)
 refine ⟨by rw [upd_ne hrl]; exact h.top,h.len,h.nd,h.off,fun a b ha=>?_⟩
 by_cases c:a=i
 ·subst c
  rw [hi] at ha; cases ha
  obtain ⟨ys',e1,e2⟩:=h.row a r hi
  rw [hy] at e1; cases e1
  refine ⟨_,upd_same,((e2.st (stup_lst hy)).set (t:=t) (hv.st (stup_lst hy)) sv).eq fun j _=>?_⟩
  by_cases d:j=t
  ·rw [if_pos d,if_pos ⟨rfl,d⟩]
  ·rw [if_neg d,if_neg (fun z=>d z.2)]
 ·have nb:b≠r:=fun z=>c (nd_at h.nd ha (z ▸ hi))
  obtain ⟨ys',e1,e2⟩:=h.row a b ha
  refine ⟨ys',by rw [upd_ne nb]; exact e1,(e2.st (stup_lst hy)).eq fun j _=>?_⟩
  rw [if_neg (fun z=>c z.1)]
theorem mat_at {H:Hp} {kd:Kd} {n:Nat} {rl:Addr} {rs:List Addr} {A:Mat (Car kd)} (h:IsMat H kd n rl rs A) {i:Nat} (hi:i < n):∃ r ys,rs[i]?=some r∧atI (rs.map V.ref) (i:Int)=some (V.ref r)∧H r=some (.lst ys)∧IsVec H kd TB n ys (A i):=by
 have e:rs[i]?=some (rs[i]'(by rw [h.len]; exact hi)):=List.getElem?_eq_getElem _
 obtain ⟨ys,a,b⟩:=h.row i _ e
 exact ⟨_,ys,e,atI_nat (by rw [List.getElem?_map,e]; rfl),a,b⟩
section
variable {P : Program} {w : World} {K : W.Frag} {mg : Str → Option Value} {base : Heap} {a : Adr}
def spStraight (a:Adr):Sp:=fun vs H Q _=>∃ (np kp tp:Addr) (kd:Kd) (ok:KdOk kd) (n:Nat) (xs:List V) (es:List (Edge (Car kd))),vs=[.ref np]∧NetIs a H np kd n kp tp xs (es.map (Edge.road kd))∧HasK kd∧Graph kd n es∧es.length≤64 ∧
 ∀ rl rs H',Same H H'→IsMat H' kd n rl rs (edgeM (ks kd ok) es)→Q (.ref rl) H'
theorem sc_straight:FnScope ["net","kind","rows","road","row"] ["net"] (defScope (top 47)):=⟨rfl,rfl,rfl,by decide +kernel,rfl,by decide +kernel,by decide +kernel⟩
theorem d_straight (T:Tx K mg a) (V_kind:Mth P w K mg base 1 (fun _:Unit=>a.cNet) "kind" ["self"] (fun _=>spNKind a)) (V_places:Mth P w K mg base 1 (fun _:Unit=>a.cNet) "places" ["self"] (fun _=>spNPlaces a)) (V_roads:Mth P w K mg base 1 (fun _:Unit=>a.cNet) "roads" ["self"] (fun _=>spNRoads a))
  (V_none:Mth P w K mg base 1 a.cl "none" ["self"] (fun i=>spZero a i.1)) (V_together:Mth P w K mg base 35 a.cl "together" ["self","one","other"] (fun i=>spAdd a i.1)) (F:DefAt K mg "straight" (top 47)):Dn P w K mg base 36 "straight" ["net"] (spStraight a):=by
 obtain ⟨f,fd,hm,F⟩:=F.ex
 refine ⟨f,fd,hm,F.kp,F.binds fun _ _ _ _ _ _ us hl=>match us,hl with | [_],_=>rfl,?_⟩
 refine F.okN sc_straight (fun vs H Q E h=>?_) (fun cdv A outer s H vs Q E hr h=>?_)
 ·obtain ⟨_,_,_,_,_,_,_,_,rfl,_⟩:=h
  rfl
 ·obtain ⟨np,kp,tp,kd,ok,n,xs,es,rfl,N,hK,G,h64,q⟩:=h
  refine ⟨_,(pss_cons (ps_set (i:=1) sc_straight.nd rfl (Or.inr rfl) (pe_methV0 (pv 0) V_kind (hr.mono (by decide)) passE0))
   (pss_cons (ps_setC (i:=2) sc_straight.nd rfl rfl (N:=["net","kind","rows","road","row"]) (osc:=defScope (top 47)) (k:=1) (N':=["place","net","kind"]) (fr:=[0,1]) ⟨rfl,by decide +kernel,by decide +kernel,by decide +kernel,rfl,by decide +kernel,by decide +kernel⟩ rfl rfl rfl (pi_range1 rfl T.b_range (pa_cons (hs:=st_Call) (pe_methV0 (pv 0) V_places (hr.mono (by decide)) passE0) pa_nil)) (fun ca=>⟨(pg_name (i:=0) (show List.Nodup (["place","net","kind"]:List Str) from by decide +kernel) rfl (Or.inl rfl)),pts_nil,(pe_op op_rep (pe_lst (pa_cons (hs:=st_Call) (pe_methV0 (pv 2) V_none (hr.mono (by decide)) passE0) pa_nil)) (pe_methV0 (pv 1) V_places (hr.mono (by decide)) passE0))⟩))
   (pss_cons (ps_for PassesOwn.never rfl (pi_list (pe_methV0 (pv 0) V_roads (hr.mono (by decide)) passE0)) (pg_name (i:=3) sc_straight.nd rfl (Or.inl rfl)) (pss_cons (ps_set (i:=4) sc_straight.nd rfl (Or.inl rfl) (pe_ix ix_list (pv 2) (pe_ix ix_tup (pv 3) pe_int (fun _ _=>rfl)) (fun _ _=>rfl)))
   (pss_one (ps_asg (pe_methV (pv 1) V_together (hr.mono (by decide)) passE0 (pa_cons (hs:=st_Subscript) (pe_ix ix_list (pv 4) (pe_ix ix_tup (pv 3) pe_int (fun _ _=>rfl)) (fun _ _=>rfl)) (pa_cons (hs:=st_Subscript) (pe_ix ix_tup (pv 3) pe_int (fun _ _=>rfl)) pa_nil))) (pg_sub (pv 4) (pe_ix ix_tup (pv 3) pe_int (fun _ _=>rfl)) set_list)))))
   (pss_one (ps_ret (pv 2)))))),?_⟩
  obtain ⟨dx,hx⟩:=N.ins
  obtain ⟨kdx,hk⟩:=N.kind
  have nb:=G.nb
  have hl:xs.length=es.length:=by rw [N.rds.length,List.length_map]
  refine ⟨_,rfl,(),np,dx,_,rfl,hx,rfl,np,kp,tp,kd,n,xs,_,rfl,N,?_⟩
  dsimp only [gName]
  refine seqK (fun σ H'=>∃ rl rs,σ=[some (.ref np),some (.ref kp),some (.ref rl),none,none]∧Same H H'∧(∀ r∈rs,H r=none)∧H rl=none∧IsMat H' kd n rl rs (fun _ _=>(ks kd ok).zero)) (fun nx kk=>?_) ?_
  ·refine ⟨_,rfl,(),np,dx,_,rfl,hx,rfl,np,kp,tp,kd,n,xs,_,rfl,N,(n:Int),rfl,by omega,by omega,comp_range (n:=(n:Int).toNat) (fun j ys H'=>Same H H'∧∃ rs:List Addr,ys=rs.map V.ref∧rs.length=j∧rs.Nodup∧(∀ r∈rs,H r=none)∧∀ r∈rs,∃ zs,H' r=some (.lst zs)∧IsVec H' kd TB n zs (fun _=>(ks kd ok).zero)) (lines (by omega)) ⟨Same.refl H,[],rfl,rfl,List.nodup_nil,(fun r hr=>by cases hr),(fun r hr=>by cases hr)⟩ ?_ ?_⟩
   ·rintro j ys H' hj ⟨s',rs,rfl,hlen,hnd,hnew,hrow⟩ ca
    refine ⟨⟨rfl,rfl⟩,?_⟩
    refine ⟨_,rfl,⟨kd,hK⟩,kp,kdx,_,rfl,s' _ _ hk,kfs_no _ (by decide +kernel),kp,ok,rfl,⟨kdx,s' _ _ hk⟩,fun v5 H5 s5 w5=>?_⟩
    refine ⟨(by show 1≤sizeLine; decide),fun l5 m5=>?_⟩
    have u5:=same_one (o:=.lst [v5]) m5
    have s06:=(s'.trans s5).trans u5
    refine ⟨_,rfl,(),np,dx,_,rfl,s06 _ _ hx,rfl,np,kp,tp,kd,n,xs,_,rfl,N.same s06,l5,_,_,rfl,rfl,upd_same,by show -(2 ^ 63)≤(n:Int); omega,by show (n:Int) < 2 ^ 63; omega,Nat.le_of_lt (lines (by show 1 * (n:Int).toNat≤1000; omega)),fun l6 m6=>?_⟩
    have u6:=same_one (o:=.lst (List.replicate (n:Int).toNat [v5]).flatten) m6
    have z6:(upd (upd H5 l5 (.lst [v5])) l6 (.lst (List.replicate (n:Int).toNat [v5]).flatten)) l6=some (.lst (List.replicate n v5)):=by rw [upd_same,rep_flat]; rfl
    have s6:=s5.trans (u5.trans u6)
    have n6:H' l6=none:=same_none (s5.trans u5) m6
    refine ⟨s'.trans s6,rs ++ [l6],by rw [List.map_append]; rfl,by rw [List.length_append,List.length_singleton,hlen],?_,fun r hr=>?_,fun r hr=>?_⟩
    ·rw [List.nodup_append]
     refine ⟨hnd,by simp,fun r hr b hb=>?_⟩
     rw [List.mem_singleton.mp hb]
     obtain ⟨zs,e1,_⟩:=hrow r hr
     exact ne_of_none e1 n6
    ·rcases List.mem_append.mp hr with hr | hr
     ·exact hnew r hr
     ·rw [List.mem_singleton.mp hr]; exact same_none s' n6
    ·rcases List.mem_append.mp hr with hr | hr
     ·obtain ⟨zs,e1,e2⟩:=hrow r hr
      exact ⟨zs,s6 _ _ e1,e2.st (same_st s6)⟩
     ·rw [List.mem_singleton.mp hr]
      exact ⟨_,z6,IsVec.rep (w5.same (u5.trans u6)) ((sm_zero kd ok).mono (by decide))⟩
   ·rintro ys H' ⟨s',rs,rfl,hlen,hnd,hnew,hrow⟩ rl nrl
    rw [Int.toNat_natCast] at hlen
    have u1:=same_one (o:=.lst (rs.map V.ref)) nrl
    refine kk _ _ ⟨rl,rs,rfl,s'.trans u1,hnew,same_none s' nrl,upd_same,hlen,hnd,fun z=>?_,fun i r hi=>?_⟩
    ·obtain ⟨zs,e1,_⟩:=hrow rl z
     rw [nrl] at e1; cases e1
    ·obtain ⟨zs,e1,e2⟩:=hrow r (List.mem_of_getElem? hi)
     exact ⟨zs,u1 _ _ e1,e2.st (same_st u1)⟩
  rintro σ H1 ⟨rl,rs,rfl,s1,hnew,nrl,M1⟩
  refine ⟨_,rfl,(),np,dx,_,rfl,s1 _ _ hx,rfl,np,kp,tp,kd,n,xs,_,rfl,N.same s1,fun l2 nl2=>?_⟩
  have u2:=same_one (o:=.lst xs) nl2
  have M2:=M1.same u2
  have s2:=s1.trans u2
  have nl2H:H l2=none:=same_none s1 nl2
  refine ⟨l2,rfl,⟨xs,SqL.of upd_same⟩,for_list (xs:=xs) (fun j σ H'=>∃ (o3 o4:Option V),σ=[some (.ref np),some (.ref kp),some (.ref rl),o3,o4]∧Same H H'∧H' l2=some (.lst xs)∧IsMat H' kd n rl rs (fun i=>stepV (ks kd ok) (es.take j) (unitV (ks kd ok) i)))
   ⟨_,_,rfl,s2,upd_same,M2.eq fun i j _ _=>rfl⟩ (fun j σ H' _ ⟨_,_,_,_,h,_⟩=>SqL.of h) ?_ ?_⟩
  ·rintro j x σ H' ex ⟨o3,o4,rfl,s',h2,M'⟩
   have hj:j < es.length:=by have:=(List.getElem?_eq_some_iff.mp ex).1; omega
   have ee:es[j]?=some es[j]:=List.getElem?_eq_getElem hj
   obtain ⟨r,er,pr,wv,rfl,f2,f3⟩:=pget N.rds ex
   rw [List.getElem?_map,ee] at er
   obtain rfl:Edge.road kd es[j]=r:=Option.some.inj er
   obtain ⟨g1,g2⟩:=G.ends es[j] (List.getElem_mem hj)
   have sme:=G.sm es[j] (List.getElem_mem hj)
   have fit:=G.fits (ok:=ok) h64 es[j].f (k:=1) (by decide)
   generalize es[j]=e at ee f2 f3 g1 g2 sme fit
   have t7:=s' _ _ f2
   obtain ⟨ra,ys,e1,e2,e3,e4⟩:=mat_at M' g1
   obtain ⟨vg,eg,wg,sg⟩:=e4.2 e.t g2
   refine ⟨_,rfl,_,rfl,pr,_,_,_,rfl,rfl,SqT.of t7,rfl,rl,_,_,_,rfl,rfl,SqL.of M'.top,e2,?_⟩
   refine ⟨_,rfl,⟨kd,hK⟩,kp,kdx,_,rfl,s' _ _ hk,kfs_no _ (by decide +kernel),_,rfl,_,rfl,pr,_,_,_,rfl,rfl,SqT.of t7,rfl,ra,_,_,_,rfl,rfl,SqL.of e3,atI_nat eg,_,rfl,pr,_,_,_,rfl,rfl,SqT.of t7,rfl,?_⟩
   refine ⟨kp,vg,wv,ok,_,e.c,rfl,⟨kdx,s' _ _ hk⟩,wg,f3.same s',sg.mono (by decide),sme.mono (by decide),fun v8 H8 s8 w8=>?_⟩
   have M8:=M'.same s8
   have e38:=s8 _ _ e3
   refine ⟨_,rfl,_,rfl,pr,_,_,_,rfl,rfl,SqT.of (s8 _ _ t7),rfl,ra,_,_,e.t,rfl,rfl,e38,(by rw [e4.1]; exact ixN_nat g2),?_⟩
   have nra:H ra=none:=hnew ra (List.mem_of_getElem? e1)
   have l2ra:l2≠ra:=fun z=>by
    have:=M1.row e.f ra e1
    obtain ⟨zs,q1,_⟩:=this
    rw [← z,nl2] at q1; cases q1
   have sadd:=fit.sum 0 (by decide) (j + 1) e.t
   have ev:∀ i b,stepV (ks kd ok) (es.take (j + 1)) (unitV (ks kd ok) i) b=if i=e.f∧b=e.t then (ks kd ok).add (stepV (ks kd ok) (es.take j) (unitV (ks kd ok) i) b) e.c else stepV (ks kd ok) (es.take j) (unitV (ks kd ok) i) b:=fun i b=>by
    rw [stepV_take ee]
    unfold unitV KSR.when
    by_cases c1:b=e.t
    ·rw [if_pos c1]
     by_cases c2:i=e.f
     ·rw [if_pos (show i=e.f∧b=e.t from ⟨c2,c1⟩),if_pos c2.symm,(ks kd ok).one_mul]
     ·rw [if_neg (show ¬ (i=e.f∧b=e.t) from fun z=>c2 z.1),if_neg (Ne.symm c2),(ks kd ok).zero_mul,(ks kd ok).add_zero]
    ·rw [if_neg c1,if_neg (show ¬ (i=e.f∧b=e.t) from fun z=>c1 z.2)]
   have sadd2:Sm TB (enc kd ((ks kd ok).add (stepV (ks kd ok) (es.take j) (unitV (ks kd ok) e.f) e.t) e.c)):=by
    have z:stepV (ks kd ok) (es.take (j + 1)) (stepsV (ks kd ok) es e.f 0) e.t=(ks kd ok).add (stepV (ks kd ok) (es.take j) (unitV (ks kd ok) e.f) e.t) e.c:=(ev e.f e.t).trans (if_pos ⟨rfl,rfl⟩)
    rw [z] at sadd; exact sadd.mono (by decide)
   refine ⟨_,_,rfl,same_upd (s'.trans s8) nra,by rw [upd_ne l2ra]; exact s8 _ _ h2,(M8.set (t:=e.t) e1 e38 w8 sadd2).eq fun i b _ _=>?_⟩
   rw [ev]
   by_cases c:i=e.f∧b=e.t
   ·rw [if_pos c,if_pos c,c.1,c.2]
   ·rw [if_neg c,if_neg c]
  ·rintro σ H' ⟨o3,o4,rfl,s',h2,M'⟩
   rw [hl,List.take_length] at M'
   exact ⟨_,rfl,q rl rs H' s' M'⟩
def spLed (a:Adr):Sp:=fun vs H Q E=>∃ (kp rl:Addr) (kd:Kd) (ok:KdOk kd) (n k:Nat) (rs:List Addr) (A:Mat (Car kd)),vs=[.ref kp,.ref rl,.int (k:Int)]∧KindAt a H kp kd∧HasK kd∧n≤8∧k < n∧IsMat H kd n rl rs A ∧
 (∀ r,(ks kd ok).star (A k k)=some r→∀ i j,i < n→j < n→Sm TB (enc kd (ledA (ks kd ok) A k r i j)))∧((ks kd ok).star (A k k)=none→∀ H',Same H H'→E (.ref a.cNoSum) none H') ∧
 (∀ r,(ks kd ok).star (A k k)=some r→∀ rl' rs' H',Same H H'→H rl'=none→(∀ b∈rs',H b=none)→IsMat H' kd n rl' rs' (ledA (ks kd ok) A k r)→Q (.ref rl') H')
theorem sc_led_through:FnScope ["kind","rows","middle","onward","ring","led","row","toward"] ["kind","rows","middle"] (defScope (top 48)):=⟨rfl,rfl,rfl,by decide +kernel,rfl,by decide +kernel,by decide +kernel⟩
theorem d_led (T:Tx K mg a) (V_rounds:Mth P w K mg base 36 a.cl "rounds" ["self","one"] (fun i=>spStar a i.1)) (V_together:Mth P w K mg base 35 a.cl "together" ["self","one","other"] (fun i=>spAdd a i.1)) (V_behind:Mth P w K mg base 35 a.cl "behind" ["self","one","other"] (fun i=>spMul a i.1))
  (F:DefAt K mg "led_through" (top 48)):Dn P w K mg base 37 "led_through" ["kind","rows","middle"] (spLed a):=by
 obtain ⟨f,fd,hm,F⟩:=F.ex
 refine ⟨f,fd,hm,F.kp,F.binds fun _ _ _ _ _ _ us hl=>match us,hl with | [_,_,_],_=>rfl,?_⟩
 refine F.okX sc_led_through (fun vs H Q E h=>?_) (fun cdv A outer s H vs Q E hr h=>?_)
 ·obtain ⟨_,_,_,_,_,_,_,_,rfl,_⟩:=h
  rfl
 ·obtain ⟨kp,rl,kd,ok,n,k,rs,A,rfl,⟨kdx,hk⟩,hK,n8,hkn,MA,hsm,e,q⟩:=h
  refine ⟨_,(pss_cons (ps_set (i:=3) sc_led_through.nd rfl (Or.inr rfl) (pe_ix ix_list (pv 1) (pv 2) (fun _ _=>rfl)))
   (pss_cons (ps_set (i:=4) sc_led_through.nd rfl (Or.inl rfl) (pe_methV (pv 0) V_rounds (hr.mono (by decide)) pass_cx (pa_cons (hs:=st_Subscript) (pe_ix ix_list (pv 3) (pv 2) (fun _ _=>rfl)) pa_nil)))
   (pss_cons (ps_set (i:=5) sc_led_through.nd rfl (Or.inl rfl) (pe_lst pa_nil))
   (pss_cons (ps_for own_cx rfl (pi_list (pv 1)) (pg_name (i:=6) sc_led_through.nd rfl (Or.inl rfl)) (pss_cons (ps_set (i:=7) sc_led_through.nd rfl (Or.inr rfl) (pe_methV (pv 0) V_behind (hr.mono (by decide)) pass_cx (pa_cons (hs:=st_Subscript) (pe_ix ix_list (pv 6) (pv 2) (fun _ _=>rfl)) (pa_cons (hs:=st_Name) (pv 4) pa_nil))))
   (pss_one (ps_expr (pe_bm PySem.F.plainAttrs_list PySem.F.slot_list_append PySem.F.type_list_append mt_append (pv 5) (pa_cons (hs:=st_ListComp) (pe_comp (N:=["kind","rows","middle","onward","ring","led","row","toward"]) (osc:=defScope (top 48)) (k:=2) (N':=["at","worth","kind","toward","onward"]) (fr:=[0,7,3]) ⟨rfl,by decide +kernel,by decide +kernel,by decide +kernel,rfl,by decide +kernel,by decide +kernel⟩ rfl rfl rfl (pi_enum rfl T.b_enumerate (pa_cons (hs:=st_Name) (pv 6) pa_nil)) (fun ca=>⟨(pg_tup rfl (pgs_cons (pg_name (i:=0) (show List.Nodup (["at","worth","kind","toward","onward"]:List Str) from by decide +kernel) rfl (Or.inl rfl)) (pgs_cons (pg_name (i:=1) (show List.Nodup (["at","worth","kind","toward","onward"]:List Str) from by decide +kernel) rfl (Or.inl rfl)) pgs_nil))),pts_nil,(pe_methV (pv 2) V_together (hr.mono (by decide)) passE0 (pa_cons (hs:=st_Name) (pv 1) (pa_cons (hs:=st_Call) (pe_methV (pv 2) V_behind (hr.mono (by decide)) passE0 (pa_cons (hs:=st_Name) (pv 3) (pa_cons (hs:=st_Subscript) (pe_ix ix_list (pv 4) (pv 0) (fun _ _=>rfl)) pa_nil))) pa_nil)))⟩)) pa_nil))))))
   (pss_one (ps_ret (pv 5))))))),?_⟩
  obtain ⟨ra,ya,a1,a2,a3,a4⟩:=mat_at MA hkn
  obtain ⟨vk,ek,wk,sk⟩:=a4.2 k hkn
  refine ⟨_,rfl,_,rfl,rl,_,_,_,rfl,rfl,SqL.of MA.top,a2,?_⟩
  refine ⟨_,rfl,⟨kd,hK⟩,kp,kdx,_,rfl,hk,kfs_no _ (by decide +kernel),_,rfl,_,rfl,ra,_,_,_,rfl,rfl,SqL.of a3,atI_nat ek,?_⟩
  refine ⟨kp,vk,ok,_,rfl,⟨kdx,hk⟩,wk,sk.mono (by decide),fun r hr vr H1 s1 w1=>?_,e⟩
  have sr:=sm_star sk hr
  have q:=q r hr
  have hsm:=hsm r hr
  refine ⟨(by show 0≤sizeLine; decide),fun ll nll=>?_⟩
  have u2:=same_one (o:=.lst []) nll
  have s2:=s1.trans u2
  have M2:=MA.same s2
  have w2:=w1.same u2
  have nllH:H ll=none:=same_none s1 nll
  have z2:=upd_same (H:=H1) (a:=ll) (o:=.lst [])
  generalize upd H1 ll (.lst [])=H2 at u2 s2 M2 w2 z2
  have hrl:(rs.map V.ref).length=n:=by rw [List.length_map]; exact MA.len
  refine ⟨_,rfl,rl,rfl,⟨_,SqL.of M2.top⟩,for_list (xs:=rs.map V.ref) (fun i σ H'=>∃ (ts:List Addr) (o6 o7:Option V),σ=[some (.ref kp),some (.ref rl),some (.int (k:Int)),some (.ref ra),some vr,some (.ref ll),o6,o7]∧Same H H'∧IsW H' vr (enc kd r)∧H' ll=some (.lst (ts.map V.ref))∧ts.length=i∧ts.Nodup∧(∀ b∈ts,H b=none∧b≠ll)∧∀ j b,ts[j]?=some b→∃ zs,H' b=some (.lst zs)∧IsVec H' kd TB n zs (ledA (ks kd ok) A k r j))
   ⟨[],_,_,rfl,s2,w2,z2,rfl,List.nodup_nil,(fun b hb=>by cases hb),(fun j b hb=>by cases hb)⟩ (fun i σ H' _ ⟨_,_,_,_,s',_⟩=>SqL.of (s' _ _ MA.top)) ?_ ?_⟩
  ·rintro i x σ H' ex ⟨ts,o6,o7,rfl,s',wr,hll,htl,hnd,hnew,hts⟩
   have hi:i < n:=by have:=(List.getElem?_eq_some_iff.mp ex).1; omega
   obtain ⟨rb,yb,b1,b2,b3,b4⟩:=mat_at MA hi
   obtain rfl:V.ref rb=x:=by
    rw [List.getElem?_map,b1] at ex; exact Option.some.inj ex
   obtain ⟨vb,eb,wb,sb⟩:=b4.2 k hkn
   have b3':=s' _ _ b3
   refine ⟨_,rfl,⟨kd,hK⟩,kp,kdx,_,rfl,s' _ _ hk,kfs_no _ (by decide +kernel),_,rfl,_,rfl,rb,_,_,_,rfl,rfl,SqL.of b3',atI_nat eb,_,rfl,?_⟩
   refine ⟨kp,vb,vr,ok,_,r,rfl,⟨kdx,s' _ _ hk⟩,wb.same s',wr,sb.mono (by decide),sr.mono (by decide),fun vt H3 s3 w3=>?_⟩
   have s03:=s'.trans s3
   have st:=sm_mul (ok:=ok) sb sr
   have b33:=s03 _ _ b3
   refine ⟨_,rfl,.inl ⟨rfl,_,SqL.of (s3 _ _ hll)⟩,?_⟩
   refine ⟨_,rfl,rb,rfl,⟨yb,SqL.of b33⟩,comp_enum (xs:=yb) (fun j zs H4=>Same H3 H4∧zs.length=j∧∀ b,b < j→∃ v,zs[b]?=some v∧IsW H4 v (enc kd (ledA (ks kd ok) A k r i b))) (lines (by rw [b4.1]; omega)) ⟨Same.refl H3,rfl,fun b hb=>absurd hb (Nat.not_lt_zero b)⟩ (fun j zs H4 _ ⟨s4,_⟩=>SqL.of (s4 _ _ b33)) ?_ ?_⟩
   ·rintro j x zs H4 p exj ⟨s4,hzl,hz⟩ np ca
    have hj:j < n:=by have:=(List.getElem?_eq_some_iff.mp exj).1; rw [b4.1] at this; exact this
    obtain ⟨vj,ej,wj,sj⟩:=b4.2 j hj
    rw [ej] at exj
    obtain rfl:=Option.some.inj exj
    obtain ⟨vo,eo,wo,so⟩:=a4.2 j hj
    have u5:=same_one (o:=.tup [.int (j:Nat),vj]) np
    have s05:=(s03.trans s4).trans u5
    refine ⟨p,_,rfl,SqT.of upd_same,rfl,_,_,rfl,_,_,rfl,rfl,?_⟩
    refine ⟨⟨rfl,rfl⟩,?_⟩
    refine ⟨_,rfl,⟨kd,hK⟩,kp,kdx,_,rfl,s05 _ _ hk,kfs_no _ (by decide +kernel),_,rfl,_,rfl,⟨kd,hK⟩,kp,kdx,_,rfl,s05 _ _ hk,kfs_no _ (by decide +kernel),_,rfl,_,rfl,_,rfl,ra,_,_,_,rfl,rfl,SqL.of (s05 _ _ a3),atI_nat eo,?_⟩
    refine ⟨kp,vt,vo,ok,_,_,rfl,⟨kdx,s05 _ _ hk⟩,(w3.same s4).same u5,wo.same s05,st.mono (by decide),so.mono (by decide),fun vm H6 s6 w6=>?_⟩
    have sm:=sm_mul (ok:=ok) st so
    refine ⟨kp,vj,vm,ok,_,_,rfl,⟨kdx,(s05.trans s6) _ _ hk⟩,wj.same (s05.trans s6),w6,sj.mono (by decide),sm.mono (by decide),fun vf H7 s7 w7=>?_⟩
    have s47:=(u5.trans s6).trans s7
    refine ⟨s4.trans s47,by rw [List.length_append,List.length_singleton,hzl],fun b hb=>?_⟩
    by_cases c:b < j
    ·obtain ⟨v,e1,e2⟩:=hz b c
     exact ⟨v,by rw [List.getElem?_append_left (by omega)]; exact e1,e2.same s47⟩
    ·obtain rfl:b=j:=by omega
     exact ⟨vf,by rw [List.getElem?_append_right (by omega),hzl]; simp,w7⟩
   ·rintro zs H4 ⟨s4,hzl,hz⟩ lz nlz
    rw [b4.1] at hzl hz
    have u5:=same_one (o:=.lst zs) nlz
    have s35:=s4.trans u5
    have hll5:=s35 _ _ (s3 _ _ hll)
    refine ⟨ll,_,_,rfl,rfl,hll5,lines (by rw [List.length_map]; omega),?_⟩
    have nlzH:H lz=none:=same_none (s03.trans s4) nlz
    have lzne:lz≠ll:=fun z=>by
     have:=s4 _ _ (s3 _ _ hll)
     rw [← z,nlz] at this; cases this
    have stp:=(same_st (s3.trans s35)).trans (stup_lst (o:=.lst (ts.map V.ref ++ [V.ref lz])) hll5)
    refine ⟨ts ++ [lz],_,_,rfl,same_upd (s03.trans s35) nllH,wr.st stp,by rw [upd_same,List.map_append]; rfl,by rw [List.length_append,List.length_singleton,htl],?_,fun b hb=>?_,fun j b hb=>?_⟩
    ·rw [List.nodup_append]
     refine ⟨hnd,by simp,fun b hb c hc=>?_⟩
     rw [List.mem_singleton.mp hc]
     obtain ⟨j,hj⟩:=List.getElem?_of_mem hb
     obtain ⟨zs',q1,_⟩:=hts j b hj
     exact ne_of_none (s4 _ _ (s3 _ _ q1)) nlz
    ·rcases List.mem_append.mp hb with hb | hb
     ·exact hnew b hb
     ·rw [List.mem_singleton.mp hb]; exact ⟨nlzH,lzne⟩
    ·by_cases c:j < ts.length
     ·rw [List.getElem?_append_left c] at hb
      obtain ⟨zs',q1,q2⟩:=hts j b hb
      have nb:=(hnew b (List.mem_of_getElem? hb)).2
      exact ⟨zs',by rw [upd_ne nb]; exact s35 _ _ (s3 _ _ q1),q2.st stp⟩
     ·rw [List.getElem?_append_right (by omega)] at hb
      have hj0:j - ts.length=0:=by
       have:=(List.getElem?_eq_some_iff.mp hb).1
       rw [List.length_singleton] at this; omega
      rw [hj0] at hb
      obtain rfl:lz=b:=Option.some.inj hb
      obtain rfl:j=i:=by omega
      refine ⟨zs,by rw [upd_ne lzne]; exact upd_same,hzl,fun b hb=>?_⟩
      obtain ⟨v,q1,q2⟩:=hz b hb
      exact ⟨v,q1,(q2.same u5).st (stup_lst hll5),hsm j b hi hb⟩
  ·rintro σ H' ⟨ts,o6,o7,rfl,s',wr,hll,htl,hnd,hnew,hts⟩
   rw [hrl] at htl
   exact ⟨_,rfl,q ll ts H' s' nllH (fun b hb=>(hnew b hb).1) ⟨hll,htl,hnd,fun z=>(hnew ll z).2 rfl,hts⟩⟩
def spTable (a:Adr):Sp:=fun vs H Q E=>∃ (np kp tp:Addr) (kd:Kd) (ok:KdOk kd) (n:Nat) (xs:List V) (es:List (Edge (Car kd))),vs=[.ref np]∧NetIs a H np kd n kp tp xs (es.map (Edge.road kd))∧HasK kd∧Graph kd n es∧es.length≤64∧TFits kd ok es n∧0 < n ∧
 (stageA (ks kd ok) (edgeM (ks kd ok) es) n=none→∀ H',Same H H'→E (.ref a.cNoSum) none H') ∧
 (∀ A,stageA (ks kd ok) (edgeM (ks kd ok) es) n=some A→∀ rl rs H',Same H H'→H rl=none→(∀ b∈rs,H b=none)→IsMat H' kd n rl rs (tabA (ks kd ok) A)→Q (.ref rl) H')
theorem sc_table:FnScope ["net","kind","rows","place"] ["net"] (defScope (top 49)):=⟨rfl,rfl,rfl,by decide +kernel,rfl,by decide +kernel,by decide +kernel⟩
theorem d_table (T:Tx K mg a) (V_kind:Mth P w K mg base 1 (fun _:Unit=>a.cNet) "kind" ["self"] (fun _=>spNKind a)) (V_places:Mth P w K mg base 1 (fun _:Unit=>a.cNet) "places" ["self"] (fun _=>spNPlaces a)) (V_rest:Mth P w K mg base 1 a.cl "rest" ["self"] (fun i=>spOne a i.1)) (V_together:Mth P w K mg base 35 a.cl "together" ["self","one","other"] (fun i=>spAdd a i.1))
  (D_straight:Dn P w K mg base 36 "straight" ["net"] (spStraight a)) (D_led_through:Dn P w K mg base 37 "led_through" ["kind","rows","middle"] (spLed a)) (F:DefAt K mg "table" (top 49)):Dn P w K mg base 38 "table" ["net"] (spTable a):=by
 obtain ⟨f,fd,hm,F⟩:=F.ex
 refine ⟨f,fd,hm,F.kp,F.binds fun _ _ _ _ _ _ us hl=>match us,hl with | [_],_=>rfl,?_⟩
 refine F.okX sc_table (fun vs H Q E h=>?_) (fun cdv A outer s H vs Q E hr h=>?_)
 ·obtain ⟨_,_,_,_,_,_,_,_,rfl,_⟩:=h
  rfl
 ·obtain ⟨np,kp,tp,kd,ok,n,xs,es,rfl,N,hK,G,h64,TF,n0,e,q⟩:=h
  refine ⟨_,(pss_cons (ps_set (i:=1) sc_table.nd rfl (Or.inl rfl) (pe_methV0 (pv 0) V_kind (hr.mono (by decide)) pass_cx))
   (pss_cons (ps_set (i:=2) sc_table.nd rfl (Or.inl rfl) (pe_callD D_straight (hr.mono (by decide)) rfl pass_cx (pa_cons (hs:=st_Name) (pv 0) pa_nil)))
   (pss_cons (ps_for own_cx rfl (pi_range1 rfl T.b_range (pa_cons (hs:=st_Call) (pe_methV0 (pv 0) V_places (hr.mono (by decide)) pass_cx) pa_nil)) (pg_name (i:=3) sc_table.nd rfl (Or.inl rfl)) (pss_one (ps_set (i:=2) sc_table.nd rfl (Or.inl rfl) (pe_callD D_led_through (hr.mono (by decide)) rfl pass_cx (pa_cons (hs:=st_Name) (pv 1) (pa_cons (hs:=st_Name) (pv 2) (pa_cons (hs:=st_Name) (pv 3) pa_nil)))))))
   (pss_cons (ps_for own_cx rfl (pi_range1 rfl T.b_range (pa_cons (hs:=st_Call) (pe_methV0 (pv 0) V_places (hr.mono (by decide)) pass_cx) pa_nil)) (pg_name (i:=3) sc_table.nd rfl (Or.inl rfl)) (pss_one (ps_asg (pe_methV (pv 1) V_together (hr.mono (by decide)) pass_cx (pa_cons (hs:=st_Call) (pe_methV0 (pv 1) V_rest (hr.mono (by decide)) pass_cx) (pa_cons (hs:=st_Subscript) (pe_ix ix_list (pe_ix ix_list (pv 2) (pv 3) (fun _ _=>rfl)) (pv 3) (fun _ _=>rfl)) pa_nil))) (pg_sub (pe_ix ix_list (pv 2) (pv 3) (fun _ _=>rfl)) (pv 3) set_list))))
   (pss_one (ps_ret (pv 2))))))),?_⟩
  obtain ⟨dx,hx⟩:=N.ins
  obtain ⟨kdx,hk⟩:=N.kind
  have nb:=G.nb
  refine ⟨_,rfl,(),np,dx,_,rfl,hx,rfl,np,kp,tp,kd,n,xs,_,rfl,N,?_⟩
  refine ⟨_,rfl,np,kp,tp,kd,ok,n,xs,es,rfl,N,hK,G,h64,fun rl0 rs0 H1 s1 M1=>?_⟩
  dsimp only [gName]
  refine seqK (fun σ H'=>∃ rl rs A o3,σ=[some (.ref np),some (.ref kp),some (.ref rl),o3]∧Same H H'∧(n=0∨(H rl=none∧∀ b∈rs,H b=none))∧stageA (ks kd ok) (edgeM (ks kd ok) es) n=some A∧IsMat H' kd n rl rs A) (fun nx kk=>?_) ?_
  ·refine ⟨_,rfl,(),np,dx,_,rfl,s1 _ _ hx,rfl,np,kp,tp,kd,n,xs,_,rfl,N.same s1,(n:Int),rfl,by omega,by omega,for_range (n:=(n:Int).toNat) (fun i σ H'=>∃ rl rs A o3,σ=[some (.ref np),some (.ref kp),some (.ref rl),o3]∧Same H H'∧(i=0∨(H rl=none∧∀ b∈rs,H b=none))∧stageA (ks kd ok) (edgeM (ks kd ok) es) i=some A∧IsMat H' kd n rl rs A) ⟨rl0,rs0,_,_,rfl,s1,.inl rfl,rfl,M1⟩ ?_ ?_⟩
   ·rintro i σ H' hi ⟨rl,rs,A,o3,rfl,s',hnew,hst,MA⟩
    have hi:i < n:=by omega
    have ei:(0 + (i:Int))=((i:Nat):Int):=by omega
    refine ⟨_,rfl,_,rfl,_,rfl,kp,rl,kd,ok,n,i,rs,A,(by rw [ei]),⟨kdx,s' _ _ hk⟩,hK,nb,hi,MA,fun r hr b c _ _=>(TF.sm (show i + 1≤n from hi) (stage_succ (ks kd ok) hst hr) b c).mono (by decide),fun hr H2 s2=>e (stage_none (ks kd ok) (show i + 1≤n from hi) (stage_fail (ks kd ok) hst hr)) H2 (s'.trans s2),fun r hr rl' rs' H2 s2 n1 n2 M2=>?_⟩
    exact ⟨rl',rs',_,_,rfl,s'.trans s2,.inr ⟨same_none s' n1,fun b hb=>same_none s' (n2 b hb)⟩,stage_succ (ks kd ok) hst hr,M2⟩
   ·rintro σ H' ⟨rl,rs,A,o3,rfl,s',hnew,hst,MA⟩
    rw [Int.toNat_natCast] at hst hnew
    exact kk _ _ ⟨rl,rs,A,_,rfl,s',hnew,hst,MA⟩
  rintro σ H2 ⟨rl,rs,A,o3,rfl,s2,hnew,hst,MA⟩
  have smA:=TF.sm (Nat.le_refl n) hst
  have hnew:=hnew.resolve_left (by omega)
  refine ⟨_,rfl,(),np,dx,_,rfl,s2 _ _ hx,rfl,np,kp,tp,kd,n,xs,_,rfl,N.same s2,(n:Int),rfl,by omega,by omega,for_range (n:=(n:Int).toNat) (fun i σ H'=>∃ o3,σ=[some (.ref np),some (.ref kp),some (.ref rl),o3]∧Same H H'∧IsMat H' kd n rl rs (fun b c=>if b < i then tabA (ks kd ok) A b c else A b c)) ⟨_,rfl,s2,MA.eq fun b c _ _=>(if_neg (Nat.not_lt_zero b)).symm⟩ ?_ ?_⟩
  ·rintro i σ H' hi ⟨o3,rfl,s',MI⟩
   have hi:i < n:=by omega
   have ei:(0 + (i:Int))=((i:Nat):Int):=by omega
   obtain ⟨ra,ya,a1,a2,a3,a4⟩:=mat_at MI hi
   obtain ⟨vi,evi,wvi,svi⟩:=a4.2 i hi
   dsimp only at wvi svi
   rw [if_neg (Nat.lt_irrefl i)] at wvi svi
   refine ⟨_,rfl,⟨kd,hK⟩,kp,kdx,_,rfl,s' _ _ hk,kfs_no _ (by decide +kernel),_,rfl,⟨kd,hK⟩,kp,kdx,_,rfl,s' _ _ hk,kfs_no _ (by decide +kernel),kp,ok,rfl,⟨kdx,s' _ _ hk⟩,fun vo H3 s3 w3=>?_⟩
   refine ⟨_,rfl,_,rfl,rl,_,_,_,rfl,rfl,SqL.of (s3 _ _ MI.top),(by rw [ei]; exact a2),_,rfl,ra,_,_,_,rfl,rfl,SqL.of (s3 _ _ a3),(by rw [ei]; exact atI_nat evi),?_⟩
   refine ⟨kp,vo,vi,ok,_,_,rfl,⟨kdx,(s'.trans s3) _ _ hk⟩,w3,wvi.same s3,(sm_one kd ok).mono (by decide),svi.mono (by decide),fun v4 H4 s4 w4=>?_⟩
   have s34:=s3.trans s4
   have M4:=MI.same s34
   have a34:=s34 _ _ a3
   refine ⟨_,rfl,_,rfl,rl,_,_,_,rfl,rfl,SqL.of M4.top,(by rw [ei]; exact a2),_,rfl,ra,_,_,i,rfl,rfl,a34,(by rw [a4.1,ei]; exact ixN_nat hi),?_⟩
   have sx:Sm TB (enc kd ((ks kd ok).add (ks kd ok).one (A i i))):=(sm_add (ok:=ok) (sm_one kd ok) (smA i i)).mono (by decide)
   refine ⟨_,rfl,same_upd (s'.trans s34) (hnew.2 ra (List.mem_of_getElem? a1)),(M4.set (t:=i) a1 a34 w4 sx).eq fun b c _ _=>?_⟩
   dsimp only
   by_cases h1:b < i
   ·rw [if_neg (fun z=>by omega),if_pos h1,if_pos (by omega)]
   ·rw [if_neg h1]
    by_cases h2:b=i
    ·subst h2
     rw [if_pos (Nat.lt_succ_self b)]
     unfold tabA
     by_cases h3:b=c
     ·subst h3
      rw [if_pos ⟨rfl,rfl⟩,if_pos rfl]
     ·rw [if_neg (fun z=>h3 z.2.symm),if_neg h3]
    ·rw [if_neg (fun z=>h2 z.1),if_neg (by omega)]
  ·rintro σ H' ⟨o3,rfl,s',MI⟩
   rw [Int.toNat_natCast] at MI
   exact ⟨_,rfl,q A hst rl rs H' s' hnew.1 hnew.2 (MI.eq fun b c hb _=>if_pos hb)⟩
end
end K15
namespace K15
open PySem L2 Ws
seal PE PT PW PA PC PS PSs PG PGs PI PO PJ PTs
section
variable {P : Program} {w : World} {K : W.Frag} {mg : Str → Option Value} {base : Heap} {a : Adr}
def nats (l:List Nat):List V:=l.map fun k:Nat=>V.int (k:Int)
theorem nats_len (l:List Nat):(nats l).length=l.length:=List.length_map ..
theorem enc_shape {kd:Kd} (x y:Car kd):(∃ a b c d,enc kd x=.pair a b∧enc kd y=.pair c d)∨((∀ a b,enc kd x≠.pair a b)∧(∀ a b,enc kd y≠.pair a b)):=by
 cases kd with
 | likeliest=>exact .inl ⟨_,_,_,_,rfl,rfl⟩
 | chances=>exact .inl ⟨_,_,_,_,rfl,rfl⟩
 | widest=>exact .inr ⟨(fun _ _ h=>nomatch h),(fun _ _ h=>nomatch h)⟩
 | rests n=>exact .inr ⟨(fun _ _ h=>nomatch h),(fun _ _ h=>nomatch h)⟩
 | fewest=>exact .inr ⟨(fun _ _ h=>by cases x <;> cases h),(fun _ _ h=>by cases y <;> cases h)⟩
 | musts=>exact .inr ⟨(fun _ _ h=>by cases x <;> cases h),(fun _ _ h=>by cases y <;> cases h)⟩
 | counted=>exact .inr ⟨(fun _ _ h=>by cases x <;> cases h),(fun _ _ h=>by cases y <;> cases h)⟩
theorem eqV_int (x y:Int):eqV (.int x) (.int y)=decide (x=y):=by
 show (x == y)=_
 rw [Bool.beq_eq_decide_eq]
theorem eqVs_two (c1 c2 c3 c4:Int):eqVs [V.int c1,V.int c2] [V.int c3,V.int c4]=decide (Wd.pair c1 c2=Wd.pair c3 c4):=by
 show (eqV (.int c1) (.int c3) && (eqV (.int c2) (.int c4) && true))=_
 rw [eqV_int,eqV_int,Bool.and_true,← Bool.decide_and]
 exact decide_eq_decide.mpr ⟨fun h=>by rw [h.1,h.2],fun h=>by cases h; exact ⟨rfl,rfl⟩⟩
theorem two_W {H:Hp} {v1 v2:V} {kd:Kd} {x y:Car kd} (h1:IsW H v1 (enc kd x)) (h2:IsW H v2 (enc kd y)):(scal v1 v2=true∧(v1=v2 ↔ enc kd x=enc kd y))∨(∃ r1 r2 xs ys,v1=.ref r1∧v2=.ref r2∧SqT K H r1 xs∧SqT K H r2 ys∧xs.all flatV=true∧ys.all flatV=true∧eqVs xs ys=decide (enc kd x=enc kd y)):=by
 rcases enc_shape x y with ⟨c1,c2,c3,c4,e1,e2⟩ | ⟨n1,n2⟩
 ·rw [e1] at h1
  rw [e2] at h2
  obtain ⟨r1,rfl,f1⟩:=isW_pair h1
  obtain ⟨r2,rfl,f2⟩:=isW_pair h2
  exact .inr ⟨r1,r2,_,_,rfl,rfl,SqT.of f1,SqT.of f2,rfl,rfl,by rw [eqVs_two,e1,e2]⟩
 ·refine .inl ?_
  generalize enc kd x=X at h1 n1
  generalize enc kd y=Y at h2 n2
  cases X with
  | pair c1 c2=>exact absurd rfl (n1 c1 c2)
  | non =>
   obtain rfl:=isW_non h1
   cases Y with
   | pair c1 c2=>exact absurd rfl (n2 c1 c2)
   | non=>obtain rfl:=isW_non h2; exact ⟨rfl,fun _=>rfl,fun _=>rfl⟩
   | int j=>obtain rfl:=isW_int h2; exact ⟨rfl,(fun h=>nomatch h),(fun h=>nomatch h)⟩
  | int i =>
   obtain rfl:=isW_int h1
   cases Y with
   | pair c1 c2=>exact absurd rfl (n2 c1 c2)
   | non=>obtain rfl:=isW_non h2; exact ⟨rfl,(fun h=>nomatch h),(fun h=>nomatch h)⟩
   | int j=>obtain rfl:=isW_int h2; exact ⟨rfl,(fun h=>by cases h; rfl),(fun h=>by cases h; rfl)⟩
theorem neD {H:Hp} {v1 v2:V} {kd:Kd} {x y:Car kd} {Q:VK} (h1:IsW H v1 (enc kd x)) (h2:IsW H v2 (enc kd y)) (q:∀ b:Bool,(b=true ↔ x≠y)→Q (.bl b) H):rNe v1 v2 H Q∨rNeT K v1 v2 H Q:=by
 have ex:(enc kd x=enc kd y) ↔ x=y:=⟨fun h=>enc_inj h,fun h=>by rw [h]⟩
 rcases two_W (K:=K) h1 h2 with ⟨s,e⟩ | ⟨r1,r2,xs,ys,rfl,rfl,q1,q2,f1,f2,e⟩
 ·refine .inl ⟨s,q _ ?_⟩
  rw [Bool.not_eq_true',decide_eq_false_iff_not,e,ex]
 ·refine .inr ⟨r1,r2,xs,ys,rfl,rfl,q1,q2,f1,f2,q _ ?_⟩
  rw [e,Bool.not_eq_true',decide_eq_false_iff_not,ex]
theorem eqD {H:Hp} {v1 v2:V} {kd:Kd} {x y:Car kd} {Q:VK} (h1:IsW H v1 (enc kd x)) (h2:IsW H v2 (enc kd y)) (q:∀ b:Bool,(b=true ↔ x=y)→Q (.bl b) H):rEq v1 v2 H Q∨rEqT K v1 v2 H Q:=by
 have ex:(enc kd x=enc kd y) ↔ x=y:=⟨fun h=>enc_inj h,fun h=>by rw [h]⟩
 rcases two_W (K:=K) h1 h2 with ⟨s,e⟩ | ⟨r1,r2,xs,ys,rfl,rfl,q1,q2,f1,f2,e⟩
 ·refine .inl ⟨s,q _ ?_⟩
  rw [decide_eq_true_eq,e,ex]
 ·refine .inr ⟨r1,r2,xs,ys,rfl,rfl,q1,q2,f1,f2,q _ ?_⟩
  rw [e,decide_eq_true_eq,ex]
def spBett (a:Adr):Sp:=fun vs H Q _=>∃ (kp:Addr) (v1 v2:V) (kd:Kd) (ok:KdOk kd) (x y:Car kd),vs=[.ref kp,v1,v2]∧KindAt a H kp kd∧HasK kd∧IsW H v1 (enc kd x)∧IsW H v2 (enc kd y)∧Sm 100000 (enc kd x)∧Sm 100000 (enc kd y) ∧
 ∀ (b:Bool) H',Same H H'→(b=true ↔ x≠y∧(ks kd ok).add x y=x)→Q (.bl b) H'
theorem sc_betters:FnScope ["kind","worth","other"] ["kind","worth","other"] (defScope (top 56)):=⟨rfl,rfl,rfl,by decide +kernel,rfl,by decide +kernel,by decide +kernel⟩
theorem d_betters (T:Tx K mg a) (V_together:Mth P w K mg base 35 a.cl "together" ["self","one","other"] (fun i=>spAdd a i.1)) (F:DefAt K mg "betters" (top 56)):Dn P w K mg base 36 "betters" ["kind","worth","other"] (spBett a):=by
 obtain ⟨f,fd,hm,F⟩:=F.ex
 refine ⟨f,fd,hm,F.kp,F.binds fun _ _ _ _ _ _ us hl=>match us,hl with | [_,_,_],_=>rfl,?_⟩
 refine F.okN sc_betters (fun vs H Q E h=>?_) (fun cdv A outer s H vs Q E hr h=>?_)
 ·obtain ⟨_,_,_,_,_,_,_,rfl,_⟩:=h
  rfl
 ·obtain ⟨kp,v1,v2,kd,ok,x,y,rfl,hk,hK,h1,h2,s1,s2,q⟩:=h
  refine ⟨_,(pss_one (ps_ret (pe_and (pe_cmpR (op_ne.or (op_neT hr.units0)) (pv 1) (pv 2) (nomark _)) (pe_one (pe_cmpR (op_eq.or (op_eqT hr.units0)) (pe_methV (pv 0) V_together (hr.mono (by decide)) passE0 (pa_cons (hs:=st_Name) (pv 1) (pa_cons (hs:=st_Name) (pv 2) pa_nil))) (pv 1) (nomark _)))))),?_⟩
  obtain ⟨kdx,hk⟩:=hk
  refine ⟨_,rfl,_,rfl,neD h1 h2 fun b hb=>⟨_,rfl,iteB (fun c=>?_) (fun c=>?_)⟩⟩
  ·refine ⟨_,rfl,⟨kd,hK⟩,kp,kdx,_,rfl,hk,kfs_no _ (by decide +kernel),_,rfl,_,rfl,kp,v1,v2,ok,x,y,rfl,⟨kdx,hk⟩,h1,h2,s1.mono (by decide),s2.mono (by decide),fun v3 H3 s3 w3=>?_⟩
   refine ⟨_,rfl,eqD w3 (h1.same s3) fun b2 hb2=>q b2 H3 s3 ?_⟩
   rw [hb2]
   exact ⟨fun z=>⟨hb.mp c,z⟩,fun z=>z.2⟩
  ·refine q false H (Same.refl H) ⟨(fun z=>by cases z),fun z=>?_⟩
   rw [hb.mpr z.1] at c; cases c
def KeepTL (H H':Hp):Prop:=(∀ b xs,H b=some (.tup xs)→H' b=some (.tup xs))∧∀ b xs,H b=some (.lst xs)→H' b=some (.lst xs)
theorem Same.tl {H H':Hp} (s:Same H H'):KeepTL H H':=⟨fun b xs e=>s _ _ e,fun b xs e=>s _ _ e⟩
theorem KeepTL.trans {H H1 H2:Hp} (x:KeepTL H H1) (y:KeepTL H1 H2):KeepTL H H2:=⟨fun b xs e=>y.1 b xs (x.1 b xs e),fun b xs e=>y.2 b xs (x.2 b xs e)⟩
theorem tl_dict {H:Hp} {d:Addr} {kvs:List (Key × V)} {o:HO} (h:H d=some (.dK kvs)):KeepTL H (upd H d o) :=
 ⟨fun b xs e=>by rw [upd_ne (fun z=>by rw [z,h] at e; cases e)]; exact e,fun b xs e=>by rw [upd_ne (fun z=>by rw [z,h] at e; cases e)]; exact e⟩
theorem IsW.tl {H H':Hp} (k:KeepTL H H') {v:V} {x:Wd} (h:IsW H v x):IsW H' v x:=h.st k.1
abbrev BR:Nat:=60000
def IsRE (H0 H:Hp) (kd:Kd) (p:Key × V) (r:RE (Car kd)):Prop:=p.1=Sum.inl (r.1:Int)∧Sm BR (enc kd r.2.1)∧∃ tp wv lw,p.2=.ref tp∧H tp=some (.tup [wv,.ref lw])∧IsW H wv (enc kd r.2.1)∧H lw=some (.lst (nats r.2.2))∧H0 lw=none
theorem IsRE.tl {H0 H H':Hp} {kd:Kd} {p:Key × V} {r:RE (Car kd)} (k:KeepTL H H'):IsRE H0 H kd p r→IsRE H0 H' kd p r:=fun ⟨e,s,tp,wv,lw,a,b,c,d,f⟩=>⟨e,s,tp,wv,lw,a,k.1 _ _ b,c.tl k,k.2 _ _ d,f⟩
def IsRL (H0 H:Hp) (kd:Kd) (kvs:List (Key × V)) (RL:List (RE (Car kd))):Prop:=Paired (IsRE H0 H kd) kvs RL
theorem IsRL.tl {H0 H H':Hp} {kd:Kd} {kvs:List (Key × V)} {RL:List (RE (Car kd))} (k:KeepTL H H') (h:IsRL H0 H kd kvs RL):IsRL H0 H' kd kvs RL:=Paired.mapP h fun _ _ q=>q.tl k
theorem rl_get {H0 H:Hp} {kd:Kd}:∀ {kvs:List (Key × V)} {RL:List (RE (Car kd))},IsRL H0 H kd kvs RL→(RL.map (·.1)).Nodup→∀ {r},r∈RL→∃ v,valV kvs (Sum.inl (r.1:Int))=some v∧IsRE H0 H kd (Sum.inl (r.1:Int),v) r
 | _,_,.nil,_,_,h=>nomatch h
 | p :: kvs,q :: RL,.cons e hr,nd,r,h=>by
  rw [List.map_cons] at nd
  obtain ⟨n1,n2⟩:=List.nodup_cons.mp nd
  rcases List.mem_cons.mp h with rfl | h
  ·exact ⟨p.2,valV_pos e.1,by rw [← e.1]; exact e⟩
  ·obtain ⟨v,e1,e2⟩:=rl_get hr n2 h
   refine ⟨v,?_,e2⟩
   rw [valV_neg (fun z=>n1 ?_)]
   ·exact e1
   ·rw [e.1] at z
    have:=Sum.inl.inj z
    rw [show q.1=r.1 by omega]
    exact List.mem_map.mpr ⟨r,h,rfl⟩
theorem rl_none {H0 H:Hp} {kd:Kd} {v:Nat}:∀ {kvs:List (Key × V)} {RL:List (RE (Car kd))},IsRL H0 H kd kvs RL→v ∉ RL.map (·.1)→valV kvs (Sum.inl (v:Int))=none
 | _,_,.nil,_=>rfl
 | p :: kvs,q :: RL,.cons e hr,h=>by
  rw [valV_neg (fun z=>h ?_)]
  ·exact rl_none hr fun z=>h (List.mem_cons_of_mem _ z)
  ·rw [e.1] at z
   have:=Sum.inl.inj z
   rw [List.map_cons]
   exact List.mem_cons.mpr (.inl (by omega))
theorem key_iff {x y:Nat}:((Sum.inl (x:Int):Key)=Sum.inl (y:Int)) ↔ x=y:=⟨fun h=>by have:=Sum.inl.inj h; omega,fun h=>by rw [h]⟩
theorem rl_drop {H0 H:Hp} {kd:Kd} {v:Nat}:∀ {kvs:List (Key × V)} {RL:List (RE (Car kd))},IsRL H0 H kd kvs RL→IsRL H0 H kd (dropK kvs (Sum.inl (v:Int))) (RL.filter fun r=>decide (r.1≠v))
 | _,_,.nil=>.nil
 | p :: kvs,q :: RL,.cons e hr=>by
  have ih:=rl_drop (v:=v) hr
  unfold dropK at ih ⊢
  by_cases c:q.1=v
  ·rw [List.filter_cons_of_neg (by rw [e.1,c]; simp),List.filter_cons_of_neg (by simpa using c)]
   exact ih
  ·rw [List.filter_cons_of_pos (by rw [e.1]; simp; omega),List.filter_cons_of_pos (by simpa using c)]
   exact .cons e ih
theorem rl_any {H0 H:Hp} {kd:Kd} {v:Nat}:∀ {kvs:List (Key × V)} {RL:List (RE (Car kd))},IsRL H0 H kd kvs RL→(kvs.any fun kv=>decide (kv.1=Sum.inl (v:Int)))=(RL.map (·.1)).contains v
 | _,_,.nil=>rfl
 | p :: kvs,q :: RL,.cons e hr=>by
  rw [List.any_cons,List.map_cons,List.contains_cons,rl_any hr]
  congr 1
  rw [e.1,show decide ((Sum.inl (q.1:Int):Key)=Sum.inl (v:Int))=decide (q.1=v) from decide_eq_decide.mpr key_iff]
  by_cases c:q.1=v
  ·rw [c]; simp
  ·rw [decide_eq_false c]
   symm
   exact beq_false_of_ne (Ne.symm c)
theorem rl_put {H0 H:Hp} {kd:Kd} {kvs:List (Key × V)} {RL:List (RE (Car kd))} {r:RE (Car kd)} {v:V} (h:IsRL H0 H kd kvs RL) (e:IsRE H0 H kd (Sum.inl (r.1:Int),v) r):IsRL H0 H kd (putK kvs (Sum.inl (r.1:Int)) v) (putR RL r):=by
 unfold putK putR
 rw [rl_any h]
 split
 ·rename_i hc
  clear hc
  induction h with
  | nil=>exact .nil
  | cons e' hr ih =>
   rename_i p q kvs RL
   rw [List.map_cons,List.map_cons]
   refine .cons ?_ ih
   by_cases c:q.1=r.1
   ·rw [if_pos (by rw [e'.1,c]),if_pos c,e'.1,c]; exact e
   ·rw [if_neg (by rw [e'.1]; exact fun z=>c (key_iff.mp z)),if_neg c]; exact e'
 ·exact Paired.snoc h e
def spBPl (a:Adr):Sp:=fun vs H Q _=>∃ (kp d:Addr) (kd:Kd) (ok:KdOk kd) (kvs:List (Key × V)) (RL:List (RE (Car kd))) (H0:Hp),vs=[.ref kp,.ref d]∧KindAt a H kp kd∧HasK kd∧Picks (ks kd ok)∧Tops (ks kd ok)∧H d=some (.dK kvs)∧IsRL H0 H kd kvs RL∧(RL.map (·.1)).Nodup∧RL≠[] ∧
 ∀ r H',Same H H'→r∈RL→(∀ r'∈RL,(ks kd ok).le r'.2.1 r.2.1)→Q (.int (r.1:Int)) H'
theorem DGet.f {H:Hp} {d:Addr} {o:Obj} {kvs:List (Key × V)} {k:Key} (e:H d=some (.frz o (.dK kvs))):DGet H d (kV k) (valV kvs k):=.inl ⟨kvs,k,.inr ⟨o,e⟩,rfl,rfl⟩
theorem sc_best_place:FnScope ["kind","reached","best","place"] ["kind","reached"] (defScope (top 55)):=⟨rfl,rfl,rfl,by decide +kernel,rfl,by decide +kernel,by decide +kernel⟩
theorem d_best_place (T:Tx K mg a) (D_betters:Dn P w K mg base 36 "betters" ["kind","worth","other"] (spBett a)) (F:DefAt K mg "best_place" (top 55)):Dn P w K mg base 37 "best_place" ["kind","reached"] (spBPl a):=by
 obtain ⟨f,fd,hm,F⟩:=F.ex
 refine ⟨f,fd,hm,F.kp,F.binds fun _ _ _ _ _ _ us hl=>match us,hl with | [_,_],_=>rfl,?_⟩
 refine F.okN sc_best_place (fun vs H Q E h=>?_) (fun cdv A outer s H vs Q E hr h=>?_)
 ·obtain ⟨_,_,_,_,_,_,_,rfl,_⟩:=h
  rfl
 ·obtain ⟨kp,d,kd,ok,kvs,RL,H0,rfl,hk,hK,hpk,htp,hd,hRL,nd,hne,q⟩:=h
  refine ⟨_,(pss_cons (ps_set (i:=2) sc_best_place.nd rfl (Or.inl rfl) pe_non)
   (pss_cons (ps_thaw (ps_for PassesOwn.never rfl (pi_dict (pv 1)) (pg_name (i:=3) sc_best_place.nd rfl (Or.inl rfl)) (pss_one (ps_if (PW.pt (pw_or (pt_cmp (pc_isN (pv 2))) (pw_or1 (pt_val (pe_callD D_betters (hr.mono (by decide)) rfl passE0 (pa_cons (hs:=st_Name) (pv 0) (pa_cons (hs:=st_Subscript) (pe_ix ix_tup (pe_dget (hr.al 0) (pv 1) (pv 3) (fun _ _=>rfl)) pe_int (fun _ _=>rfl)) (pa_cons (hs:=st_Subscript) (pe_ix ix_tup (pe_dget (hr.al 0) (pv 1) (pv 2) (fun _ _=>rfl)) pe_int (fun _ _=>rfl)) pa_nil)))) (fun _=>rfl))))) (pss_one (ps_set (i:=2) sc_best_place.nd rfl (Or.inl rfl) (pv 3))) pss_nil))))
   (pss_one (ps_ret (pv 2))))),?_⟩
  refine ⟨_,rfl,d,kvs,rfl,hd,fun o=>?_⟩
  have z1:=upd_same (H:=H) (a:=d) (o:=.frz o (.dK kvs))
  have b1:SameBut d H (upd H d (.frz o (.dK kvs))):=fun p u hp e=>by rw [upd_ne hp]; exact e
  have tl1:=tl_dict (o:=.frz o (.dK kvs)) hd
  generalize upd H d (.frz o (.dK kvs))=H1 at z1 b1 tl1
  have kl:kvs.length=RL.length:=Paired.length hRL
  have hk1:KindAt a H1 kp kd:=by
   obtain ⟨dx,e⟩:=hk
   exact ⟨dx,b1 _ _ (fun z=>by rw [z,hd] at e; cases e) e⟩
  refine for_dict (d:=d) (o:=o) (kvs:=kvs) (fun i σ H'=>∃ bv o3,σ=[some (.ref kp),some (.ref d),some bv,o3]∧Same H1 H'∧((i=0∧bv=.non)∨∃ r,r∈RL.take i∧bv=.int (r.1:Int)∧∀ r'∈RL.take i,(ks kd ok).le r'.2.1 r.2.1)) ⟨_,_,rfl,Same.refl H1,.inl ⟨rfl,rfl⟩⟩ (fun i σ H' _ ⟨_,_,_,s',_⟩=>s' _ _ z1) ?_ ?_
  ·rintro i k v σ H2 ekv ⟨bv,o3,rfl,s2,hb⟩
   have hi:i < RL.length:=by have:=(List.getElem?_eq_some_iff.mp ekv).1; omega
   have er:RL[i]?=some RL[i]:=List.getElem?_eq_getElem hi
   have rm:RL[i]∈RL:=List.getElem_mem hi
   have et:RL.take (i + 1)=RL.take i ++ [RL[i]]:=(List.take_append_getElem hi).symm
   have e0:=pair_at hRL i ekv er
   generalize RL[i]=r at er rm et e0
   obtain ⟨ek,_⟩:=e0
   have ek:k=Sum.inl (r.1:Int):=ek
   subst ek
   have LL:IsRL H0 H2 kd kvs RL:=hRL.tl (tl1.trans (Same.tl s2))
   have d2:=s2 _ _ z1
   have set:(∀ r'∈RL.take i,(ks kd ok).le r'.2.1 r.2.1)→∀ H',Same H1 H'→∃ bv o3,([some (.ref kp),some (.ref d),some (.int (r.1:Int)),some (.int (r.1:Int))]:L2.St)=[some (.ref kp),some (.ref d),some bv,o3]∧Same H1 H'∧((i + 1=0∧bv=.non)∨∃ r,r∈RL.take (i + 1)∧bv=.int (r.1:Int)∧∀ r'∈RL.take (i + 1),(ks kd ok).le r'.2.1 r.2.1):=fun hle H' s'=>by
    refine ⟨_,_,rfl,s',.inr ⟨r,by rw [et]; exact List.mem_append_right _ (List.mem_singleton.mpr rfl),rfl,fun r' hr'=>?_⟩⟩
    rw [et] at hr'
    rcases List.mem_append.mp hr' with hr' | hr'
    ·exact hle r' hr'
    ·rw [List.mem_singleton.mp hr']; exact le_refl _ _
   rcases hb with ⟨rfl,rfl⟩ | ⟨rb,hrb,rfl,hle⟩
   ·refine ⟨_,rfl,_,rfl,iteD (fun _=>iteT ?_) (fun z=>absurd rfl z)⟩
    exact ⟨_,rfl,set (fun r' hr'=>by rw [List.take_zero] at hr'; cases hr') H2 s2⟩
   ·refine ⟨_,rfl,_,rfl,iteD (fun z=>nomatch z) (fun _=>?_)⟩
    have rbm:=List.mem_of_mem_take hrb
    obtain ⟨va,ea,_,sa,ta,wa,la,rfl,a1,a2,a3,_⟩:=rl_get LL nd rm
    obtain ⟨vb,eb,_,sb,tb,wb,lb,rfl,b1',b2,b3,_⟩:=rl_get LL nd rbm
    have ga:DGet H2 d (.int (r.1:Int)) (some (.ref ta)):=ea ▸ DGet.f (k:=Sum.inl (r.1:Int)) d2
    have gb:DGet H2 d (.int (rb.1:Int)) (some (.ref tb)):=eb ▸ DGet.f (k:=Sum.inl (rb.1:Int)) d2
    refine ⟨_,rfl,_,rfl,_,rfl,d,.ref ta,rfl,ga,ta,_,_,_,rfl,rfl,SqT.of a1,rfl,?_⟩
    refine ⟨_,rfl,_,rfl,d,.ref tb,rfl,gb,tb,_,_,_,rfl,rfl,SqT.of b1',rfl,?_⟩
    refine ⟨kp,wa,wb,kd,ok,r.2.1,rb.2.1,rfl,hk1.same s2,hK,a2,b2,sa.mono (by decide),sb.mono (by decide),fun b H3 s3 hb3=>⟨_,rfl,iteB (fun c=>?_) (fun c=>?_)⟩⟩
    ·obtain ⟨_,hadd⟩:=hb3.mp c
     refine ⟨_,rfl,set (fun r' hr'=>le_trans _ (hle r' hr') ⟨r.2.1,by rw [(ks kd ok).add_comm]; exact hadd⟩) H3 (s2.trans s3)⟩
    ·have lab:(ks kd ok).le r.2.1 rb.2.1:=by
      rcases hpk r.2.1 rb.2.1 with h | h
      ·by_cases e:r.2.1=rb.2.1
       ·rw [e]; exact le_refl _ _
       ·rw [hb3.mpr ⟨e,h⟩] at c; cases c
      ·exact ⟨rb.2.1,h⟩
     refine ⟨_,_,rfl,s2.trans s3,.inr ⟨rb,by rw [et]; exact List.mem_append_left _ hrb,rfl,fun r' hr'=>?_⟩⟩
     rw [et] at hr'
     rcases List.mem_append.mp hr' with hr' | hr'
     ·exact hle r' hr'
     ·rw [List.mem_singleton.mp hr']; exact lab
  ·rintro σ H2 ⟨bv,o3,rfl,s2,hb⟩
   rw [kl,List.take_length] at hb
   have nf:∀ (o':Obj) (u':HO),H d≠some (.frz o' u'):=fun o' u' z=>by rw [hd] at z; cases z
   refine ⟨d,o,kvs,s2 _ _ z1,nf,?_⟩
   have sF:Same H (upd H2 d (.dK kvs)):=fun p u e=>by
    by_cases c:p=d
    ·subst c; rw [upd_same]; rw [hd] at e; exact e
    ·rw [upd_ne c]; exact s2 _ _ (b1 p u c e)
   rcases hb with ⟨z,_⟩ | ⟨r,hr',rfl,hle⟩
   ·exact absurd (List.length_eq_zero_iff.mp z) hne
   ·exact ⟨_,rfl,q r _ sF hr' hle⟩
def spOffer (a:Adr):Sp:=fun vs H Q _=>∃ (kp d lw:Addr) (wv:V) (kd:Kd) (ok:KdOk kd) (t:Nat) (x:Car kd) (ks':List Nat) (kvs:List (Key × V)) (RL:List (RE (Car kd))) (H0:Hp),vs=[.ref kp,.ref d,.int (t:Int),wv,.ref lw]∧KindAt a H kp kd∧HasK kd∧Picks (ks kd ok)∧H d=some (.dK kvs)∧IsRL H0 H kd kvs RL∧(RL.map (·.1)).Nodup∧RL.length≤100∧IsW H wv (enc kd x)∧Sm BR (enc kd x)∧H lw=some (.lst (nats ks'))∧H0 lw=none ∧
 (x=(ks kd ok).zero→∀ H',Same H H'→Q .non H')∧(x≠(ks kd ok).zero→(∃ r∈RL,r.1=t∧(ks kd ok).le x r.2.1)→∀ H',Same H H'→Q .non H') ∧
 (x≠(ks kd ok).zero→(∀ r∈RL,r.1=t→(ks kd ok).le r.2.1 x)→∀ kvs' H',SameBut d H H'→H' d=some (.dK kvs')→IsRL H0 H' kd kvs' (putR RL (t,x,ks'))→Q .non H')
theorem sc_offer:FnScope ["kind","reached","place","worth","way"] ["kind","reached","place","worth","way"] (defScope (top 57)):=⟨rfl,rfl,rfl,by decide +kernel,rfl,by decide +kernel,by decide +kernel⟩
theorem d_offer (T:Tx K mg a) (V_none:Mth P w K mg base 1 a.cl "none" ["self"] (fun i=>spZero a i.1)) (D_betters:Dn P w K mg base 36 "betters" ["kind","worth","other"] (spBett a)) (F:DefAt K mg "offer" (top 57)):Dn P w K mg base 37 "offer" ["kind","reached","place","worth","way"] (spOffer a):=by
 obtain ⟨f,fd,hm,F⟩:=F.ex
 refine ⟨f,fd,hm,F.kp,F.binds fun _ _ _ _ _ _ us hl=>match us,hl with | [_,_,_,_,_],_=>rfl,?_⟩
 refine F.okN sc_offer (fun vs H Q E h=>?_) (fun cdv A outer s H vs Q E hr h=>?_)
 ·obtain ⟨_,_,_,_,_,_,_,_,_,_,_,_,rfl,_⟩:=h
  rfl
 ·obtain ⟨kp,d,lw,wv,kd,ok,t,x,ks',kvs,RL,H0,rfl,hk,hK,hpk,hd,hRL,nd,rl100,hw,sx,hlw,hlw0,q1,q2,q3⟩:=h
  refine ⟨_,(pss_cons (ps_if (pt_cmpR (op_eq.or (op_eqT hr.units0)) (pv 3) (pe_methV0 (pv 0) V_none (hr.mono (by decide)) passE0) (nomark _)) (pss_one (ps_retN)) pss_nil)
   (pss_one (ps_if (PW.pt (pw_or (pt_cmp (pc_dnotin (hr.al 0) (pv 2) (pv 1))) (pw_or1 (pt_val (pe_callD D_betters (hr.mono (by decide)) rfl passE0 (pa_cons (hs:=st_Name) (pv 0) (pa_cons (hs:=st_Name) (pv 3) (pa_cons (hs:=st_Subscript) (pe_ix ix_tup (pe_dget (hr.al 0) (pv 1) (pv 2) (fun _ _=>rfl)) pe_int (fun _ _=>rfl)) pa_nil)))) (fun _=>rfl))))) (pss_one (ps_dput (hr.al 0) (pv 1) (pv 2) (pe_tup (pa_cons (hs:=st_Name) (pv 3) (pa_cons (hs:=st_Name) (pv 4) pa_nil))) rfl)) pss_nil))),?_⟩
  obtain ⟨kdx,hk⟩:=hk
  have kl:kvs.length=RL.length:=Paired.length hRL
  refine ⟨_,rfl,_,rfl,⟨kd,hK⟩,kp,kdx,_,rfl,hk,kfs_no _ (by decide +kernel),kp,ok,rfl,⟨kdx,hk⟩,fun v0 H1 s1 w0=>?_⟩
  refine eqD (hw.same s1) w0 fun b hb=>⟨_,rfl,iteB (fun c=>q1 (hb.mp c) H1 s1) (fun c=>?_)⟩
  have xz:x≠(ks kd ok).zero:=fun z=>by rw [hb.mpr z] at c; cases c
  have d1:=s1 _ _ hd
  have L1:IsRL H0 H1 kd kvs RL:=hRL.tl (Same.tl s1)
  have put:∀ H2,Same H H2→(∀ r∈RL,r.1=t→(ks kd ok).le r.2.1 x)→∀ tp,H2 tp=none→∃ (d':Addr) (H4:Hp),V.ref d=.ref d'∧DPut (upd H2 tp (.tup [wv,.ref lw])) d' (.int (t:Int)) (.ref tp) H4∧Q .non H4:=fun H2 s2 hle tp ntp=>by
   have u3:=s2.trans (same_one (o:=.tup [wv,.ref lw]) ntp)
   have d3:=u3 _ _ hd
   have z3:=upd_same (H:=H2) (a:=tp) (o:=.tup [wv,.ref lw])
   have tl3:=Same.tl u3
   refine ⟨d,_,rfl,DPut.k (k:=Sum.inl (t:Int)) d3 (lines (by omega)),?_⟩
   have tl4:=tl3.trans (tl_dict (o:=.dK (putK kvs (Sum.inl (t:Int)) (.ref tp))) d3)
   refine q3 xz hle _ _ (fun p u hp e=>by rw [upd_ne hp]; exact u3 _ _ e) upd_same ?_
   refine rl_put (r:=(t,x,ks')) (hRL.tl tl4) ⟨rfl,sx,tp,wv,lw,rfl,(tl_dict d3).1 _ _ z3,hw.tl tl4,tl4.2 _ _ hlw,hlw0⟩
  by_cases ct:t∈RL.map (·.1)
  ·obtain ⟨r,hr',rt⟩:=List.mem_map.mp ct
   obtain ⟨va,ea,_,sa,ta,wa,la,rfl,a1,a2,a3,_⟩:=rl_get L1 nd hr'
   rw [rt] at ea
   have ga:DGet H1 d (.int (t:Int)) (some (.ref ta)):=ea ▸ DGet.k (k:=Sum.inl (t:Int)) d1
   refine ⟨_,rfl,_,rfl,d,_,rfl,ga,_,rfl,iteF ?_⟩
   refine ⟨_,rfl,_,rfl,_,rfl,_,rfl,d,.ref ta,rfl,ga,ta,_,_,_,rfl,rfl,SqT.of a1,rfl,?_⟩
   refine ⟨kp,wv,wa,kd,ok,x,r.2.1,rfl,⟨kdx,s1 _ _ hk⟩,hK,hw.same s1,a2,sx.mono (by decide),sa.mono (by decide),fun b H2 s2 hb2=>⟨_,rfl,iteB (fun c2=>?_) (fun c2=>?_)⟩⟩
   ·refine ⟨_,rfl,_,rfl,(by show 2≤sizeLine; decide),fun tp ntp=>⟨_,rfl,_,rfl,put H2 (s1.trans s2) (fun r' hr2 e=>?_) tp ntp⟩⟩
    have:r'=r:=by
     have i1:=List.getElem?_of_mem hr'
     have i2:=List.getElem?_of_mem hr2
     obtain ⟨i,hi⟩:=i1
     obtain ⟨j,hj⟩:=i2
     have k1:(RL.map (·.1))[i]?=some t:=by rw [List.getElem?_map,hi]; exact congrArg some rt
     have k2:(RL.map (·.1))[j]?=some t:=by rw [List.getElem?_map,hj]; exact congrArg some e
     have h1:=(List.getElem?_eq_some_iff.mp k1).1
     have:=(List.getElem?_inj h1 nd).mp (k1.trans k2.symm)
     subst this
     rw [hi] at hj
     exact (Option.some.inj hj).symm
    rw [this]
    exact ⟨x,by rw [(ks kd ok).add_comm]; exact (hb2.mp c2).2⟩
   ·refine q2 xz ⟨r,hr',rt,?_⟩ H2 (s1.trans s2)
    rcases hpk x r.2.1 with h | h
    ·by_cases e:x=r.2.1
     ·rw [e]; exact le_refl _ _
     ·rw [hb2.mpr ⟨e,h⟩] at c2; cases c2
    ·exact ⟨r.2.1,h⟩
  ·have ga:DGet H1 d (.int (t:Int)) none:=(rl_none L1 ct) ▸ DGet.k (k:=Sum.inl (t:Int)) d1
   refine ⟨_,rfl,_,rfl,d,_,rfl,ga,_,rfl,iteT (iteT ?_)⟩
   exact ⟨_,rfl,_,rfl,(by show 2≤sizeLine; decide),fun tp ntp=>⟨_,rfl,_,rfl,put H1 s1 (fun r hr' e=>absurd (List.mem_map.mpr ⟨r,hr',e⟩) ct) tp ntp⟩⟩
end
end K15
namespace K15
open PySem L2 Ws
seal PE PT PW PA PC PS PSs PG PGs PI PO PJ PTs
section
variable {P : Program} {w : World} {K : W.Frag} {mg : Str → Option Value} {base : Heap} {a : Adr}
def IsSE (H0 H:Hp) (p:Key × V) (r:Nat × List Nat):Prop:=p.1=Sum.inl (r.1:Int)∧∃ lw,p.2=.ref lw∧H lw=some (.lst (nats r.2))∧H0 lw=none
def IsSL (H0 H:Hp) (kvs:List (Key × V)) (SL:List (Nat × List Nat)):Prop:=Paired (IsSE H0 H) kvs SL
theorem IsSL.tl {H0 H H':Hp} {kvs:List (Key × V)} {SL:List (Nat × List Nat)} (k:KeepTL H H') (h:IsSL H0 H kvs SL):IsSL H0 H' kvs SL:=Paired.mapP h fun _ _ ⟨e,lw,a,b,c⟩=>⟨e,lw,a,k.2 _ _ b,c⟩
theorem sl_get {H0 H:Hp}:∀ {kvs:List (Key × V)} {SL:List (Nat × List Nat)},IsSL H0 H kvs SL→(SL.map (·.1)).Nodup→∀ {r},r∈SL→∃ v,valV kvs (Sum.inl (r.1:Int))=some v∧IsSE H0 H (Sum.inl (r.1:Int),v) r
 | _,_,.nil,_,_,h=>nomatch h
 | p :: kvs,q :: SL,.cons e hr,nd,r,h=>by
  rw [List.map_cons] at nd
  obtain ⟨n1,n2⟩:=List.nodup_cons.mp nd
  rcases List.mem_cons.mp h with rfl | h
  ·exact ⟨p.2,valV_pos e.1,by rw [← e.1]; exact e⟩
  ·obtain ⟨v,e1,e2⟩:=sl_get hr n2 h
   refine ⟨v,?_,e2⟩
   rw [valV_neg (fun z=>n1 ?_)]
   ·exact e1
   ·rw [e.1] at z
    have:=Sum.inl.inj z
    rw [show q.1=r.1 by omega]
    exact List.mem_map.mpr ⟨r,h,rfl⟩
theorem sl_none {H0 H:Hp} {v:Nat}:∀ {kvs:List (Key × V)} {SL:List (Nat × List Nat)},IsSL H0 H kvs SL→v ∉ SL.map (·.1)→valV kvs (Sum.inl (v:Int))=none
 | _,_,.nil,_=>rfl
 | p :: kvs,q :: SL,.cons e hr,h=>by
  rw [valV_neg (fun z=>h ?_)]
  ·exact sl_none hr fun z=>h (List.mem_cons_of_mem _ z)
  ·rw [e.1] at z
   have:=Sum.inl.inj z
   rw [List.map_cons]
   exact List.mem_cons.mpr (.inl (by omega))
theorem countP_lt {α:Type} {p q:α→Bool}:∀ {l:List α},(∀ x∈l,p x=true→q x=true)→(∃ x∈l,q x=true∧¬ p x=true)→l.countP p < l.countP q
 | [],_,⟨x,h,_⟩=>nomatch h
 | y :: l,h,⟨x,hx,h1,h2⟩=>by
  rw [List.countP_cons,List.countP_cons]
  have le:l.countP p≤l.countP q:=List.countP_mono_left fun z hz=>h z (List.mem_cons_of_mem _ hz)
  have hy:=h y List.mem_cons_self
  rcases List.mem_cons.mp hx with e | hx
  ·subst e
   rw [if_neg h2,if_pos h1]; omega
  ·have:=countP_lt (fun z hz=>h z (List.mem_cons_of_mem _ hz)) ⟨x,hx,h1,h2⟩
   by_cases c:p y=true
   ·rw [if_pos c,if_pos (hy c)]; omega
   ·rw [if_neg c]; split <;> omega
def openN (n:Nat) (SL:List (Nat × List Nat)):Nat:=(List.range n).countP fun v=>decide (v ∉ SL.map (·.1))
theorem open_lt {n:Nat} {SL:List (Nat × List Nat)} {v:Nat} {ks:List Nat} (hv:v < n) (h:v ∉ SL.map (·.1)):openN n (SL ++ [(v,ks)]) < openN n SL:=by
 have hS:(SL ++ [(v,ks)]).map (·.1)=SL.map (·.1) ++ [v]:=by rw [List.map_append]; rfl
 unfold openN
 rw [hS]
 refine countP_lt (fun x _ hx=>?_) ⟨v,List.mem_range.mpr hv,decide_eq_true h,?_⟩
 ·exact decide_eq_true fun z=>of_decide_eq_true hx (List.mem_append_left _ z)
 ·intro z
  exact of_decide_eq_true z (List.mem_append_right _ (List.mem_singleton.mpr rfl))
theorem one_ne {kd:Kd} {ok:KdOk kd}:(ks kd ok).one≠(ks kd ok).zero:=fun z=>by
 have e:=congrArg (enc kd) z
 rw [← noneW_kno kd ok,← restW_kno kd ok] at e
 cases kd with
 | rests m=>exact absurd (show restW 6=noneW 6 from e) (by decide)
 | _=>exact absurd e (by decide)
def spBW (a:Adr):Sp:=fun vs H Q _=>∃ (np kp tp:Addr) (kd:Kd) (ok:KdOk kd) (n s:Nat) (xs:List V) (es:List (Edge (Car kd))),vs=[.ref np,.int (s:Int)]∧NetIs a H np kd n kp tp xs (es.map (Edge.road kd))∧HasK kd∧Picks (ks kd ok)∧Tops (ks kd ok)∧Graph kd n es∧es.length≤64∧s < n ∧
 ∀ d kvs SL H',Same H H'→H' d=some (.dK kvs)→IsSL H H' kvs SL→(SL.map (·.1)).Nodup→(∀ v,v∈SL.map (·.1) ↔ best (ks kd ok) es s n v≠(ks kd ok).zero)→(∀ p∈SL,∃ st,Way (ks kd ok) es s p.2 p.1 (best (ks kd ok) es s n p.1) st)→Q (.ref d) H'
theorem sc_best_ways:FnScope ["net","start","kind","reached","settled","here","found","number","road"] ["net","start"] (defScope (top 54)):=⟨rfl,rfl,rfl,by decide +kernel,rfl,by decide +kernel,by decide +kernel⟩
theorem d_best_ways (T:Tx K mg a) (V_kind:Mth P w K mg base 1 (fun _:Unit=>a.cNet) "kind" ["self"] (fun _=>spNKind a)) (V_roads:Mth P w K mg base 1 (fun _:Unit=>a.cNet) "roads" ["self"] (fun _=>spNRoads a)) (V_rest:Mth P w K mg base 1 a.cl "rest" ["self"] (fun i=>spOne a i.1)) (V_behind:Mth P w K mg base 35 a.cl "behind" ["self","one","other"] (fun i=>spMul a i.1))
  (D_best_place:Dn P w K mg base 37 "best_place" ["kind","reached"] (spBPl a)) (D_offer:Dn P w K mg base 37 "offer" ["kind","reached","place","worth","way"] (spOffer a)) (F:DefAt K mg "best_ways" (top 54)):Dn P w K mg base 38 "best_ways" ["net","start"] (spBW a):=by
 obtain ⟨f,fd,hm,F⟩:=F.ex
 refine ⟨f,fd,hm,F.kp,F.binds fun _ _ _ _ _ _ us hl=>match us,hl with | [_,_],_=>rfl,?_⟩
 refine F.okN sc_best_ways (fun vs H Q E h=>?_) (fun cdv A outer s H vs Q E hr h=>?_)
 ·obtain ⟨_,_,_,_,_,_,_,_,_,rfl,_⟩:=h
  rfl
 ·obtain ⟨np,kp,tp,kd,ok,n,st,xs,es,rfl,N,hK,hpk,htp,Gr,h64,hst,q⟩:=h
  refine ⟨_,(pss_cons (ps_set (i:=2) sc_best_ways.nd rfl (Or.inl rfl) (pe_methV0 (pv 0) V_kind (hr.mono (by decide)) passE0))
   (pss_cons (ps_set (i:=3) sc_best_ways.nd rfl (Or.inl rfl) (pe_disp (pps_cons (pv 1) (pe_tup (pa_cons (hs:=st_Call) (pe_methV0 (pv 2) V_rest (hr.mono (by decide)) passE0) (pa_cons (hs:=st_List) (pe_lst pa_nil) pa_nil))) pps_nil) rfl rfl (by simp) (by decide)))
   (pss_cons (ps_set (i:=4) sc_best_ways.nd rfl (Or.inl rfl) pe_dnewK)
   (pss_cons (ps_while PassesOwn.never (pt_cmpR op_gt (pe_callB call_lenD rfl T.b_len bt_len (pa_cons (hs:=st_Name) (pv 3) pa_nil)) pe_int (nomark _)) (pss_cons (ps_set (i:=5) sc_best_ways.nd rfl (Or.inl rfl) (pe_callD D_best_place (hr.mono (by decide)) rfl passE0 (pa_cons (hs:=st_Name) (pv 2) (pa_cons (hs:=st_Name) (pv 3) pa_nil))))
   (pss_cons (ps_set (i:=6) sc_best_ways.nd rfl (Or.inl rfl) (pe_dpop1 (pv 3) (pv 5) ⟨rfl,rfl,rfl,rfl⟩))
   (pss_cons (ps_dput (hr.al 0) (pv 4) (pv 5) (pe_ix ix_tup (pv 6) pe_int (fun _ _=>rfl)) rfl)
   (pss_one (ps_for PassesOwn.never rfl (pi_enum rfl T.b_enumerate (pa_cons (hs:=st_Call) (pe_methV0 (pv 0) V_roads (hr.mono (by decide)) passE0) pa_nil)) (pg_tup rfl (pgs_cons (pg_name (i:=7) sc_best_ways.nd rfl (Or.inl rfl)) (pgs_cons (pg_name (i:=8) sc_best_ways.nd rfl (Or.inl rfl)) pgs_nil))) (pss_one (ps_if (PW.pt (pw_and (pt_cmpR op_eq (pe_ix ix_tup (pv 8) pe_int (fun _ _=>rfl)) (pv 5) (nomark _)) (pw_and1 (pt_cmp (pc_dnotin (hr.al 0) (pe_ix ix_tup (pv 8) pe_int (fun _ _=>rfl)) (pv 4)))))) (pss_one (ps_expr (pe_callD D_offer (hr.mono (by decide)) rfl passE0 (pa_cons (hs:=st_Name) (pv 2) (pa_cons (hs:=st_Name) (pv 3) (pa_cons (hs:=st_Subscript) (pe_ix ix_tup (pv 8) pe_int (fun _ _=>rfl)) (pa_cons (hs:=st_Call) (pe_methV (pv 2) V_behind (hr.mono (by decide)) passE0 (pa_cons (hs:=st_Subscript) (pe_ix ix_tup (pv 6) pe_int (fun _ _=>rfl)) (pa_cons (hs:=st_Subscript) (pe_ix ix_tup (pv 8) pe_int (fun _ _=>rfl)) pa_nil))) (pa_cons (hs:=st_BinOp) (pe_op op_cat (pe_ix ix_tup (pv 6) pe_int (fun _ _=>rfl)) (pe_lst (pa_cons (hs:=st_Name) (pv 7) pa_nil))) pa_nil)))))))) pss_nil))))))))
   (pss_one (ps_ret (pv 4))))))),?_⟩
  obtain ⟨dx,hx⟩:=N.ins
  obtain ⟨kdx,hk⟩:=N.kind
  have hes:=Gr.ends
  have n8:=Gr.nb
  have hxl:xs.length=es.length:=by rw [N.rds.length,List.length_map]
  refine ⟨_,rfl,(),np,dx,_,rfl,hx,rfl,np,kp,tp,kd,n,xs,_,rfl,N,?_⟩
  refine fun dr ndr=>?_
  have u1:=same_one (o:=.dK []) ndr
  have z1:=upd_same (H:=H) (a:=dr) (o:=.dK [])
  generalize upd H dr (.dK [])=H1 at u1 z1
  refine ⟨_,rfl,?_⟩
  refine ⟨_,rfl,⟨kd,hK⟩,kp,kdx,_,rfl,u1 _ _ hk,kfs_no _ (by decide +kernel),kp,ok,rfl,⟨kdx,u1 _ _ hk⟩,fun v1 H2 s2 w2=>?_⟩
  refine ⟨(by show 0≤sizeLine; decide),fun l0 n0=>?_⟩
  have u3:=same_one (o:=.lst []) n0
  refine ⟨(by show 2≤sizeLine; decide),fun t0 nt0=>?_⟩
  have u4:=u3.trans (same_one (o:=.tup [v1,.ref l0]) nt0)
  have zt:=upd_same (H:=upd H2 l0 (.lst [])) (a:=t0) (o:=.tup [v1,.ref l0])
  have zl:(upd (upd H2 l0 (.lst [])) t0 (.tup [v1,.ref l0])) l0=some (.lst (nats [])):=same_one nt0 _ _ upd_same
  have l0n:H l0=none:=same_none (u1.trans s2) n0
  generalize upd (upd H2 l0 (.lst [])) t0 (.tup [v1,.ref l0])=H4 at u4 zt zl
  have d4:=(s2.trans u4) _ _ z1
  refine ⟨d4,[(Sum.inl (st:Int),.ref t0)],rfl,(show 1≤15 by decide),?_⟩
  have z5:(upd H4 dr (.dK (mergeK [] [(Sum.inl (st:Int),V.ref t0)]))) dr=some (.dK [(Sum.inl (st:Int),V.ref t0)]):=upd_same
  have tl5:=tl_dict (o:=.dK (mergeK [] [(Sum.inl (st:Int),V.ref t0)])) d4
  have s5:Same H (upd H4 dr (.dK (mergeK [] [(Sum.inl (st:Int),V.ref t0)]))):=same_upd ((u1.trans s2).trans u4) ndr
  have r5:IsRL H (upd H4 dr (.dK (mergeK [] [(Sum.inl (st:Int),V.ref t0)]))) kd [(Sum.inl (st:Int),V.ref t0)] [(st,(ks kd ok).one,[])] :=
   .cons ⟨rfl,(sm_one kd ok).mono (by decide),t0,v1,l0,rfl,tl5.1 _ _ zt,(w2.same u4).tl tl5,tl5.2 _ _ zl,l0n⟩ .nil
  generalize upd H4 dr (.dK (mergeK [] [(Sum.inl (st:Int),V.ref t0)]))=H5 at z5 tl5 s5 r5
  dsimp only [gName]
  refine fun ds nds=>?_
  have u6:=same_one (o:=.dK []) nds
  have z6:=upd_same (H:=H5) (a:=ds) (o:=.dK [])
  have dsr:ds≠dr:=fun z=>by rw [z,z5] at nds; cases nds
  have ndsH:H ds=none:=same_none s5 nds
  have s6:=s5.trans u6
  have r6:=r5.tl (Same.tl u6)
  have z56:=u6 _ _ z5
  generalize upd H5 ds (.dK [])=H6 at u6 z6 s6 r6 z56
  have I0:DInv (ks kd ok) es st n (fun _=>True) [] [(st,(ks kd ok).one,[])]:=by
   refine ⟨by simp,(fun r _ z=>by cases z),(fun r hr'=>by rw [List.mem_singleton.mp hr']; exact hst),(fun r hr'=>?_),(fun r hr'=>?_),List.nodup_nil,(fun p hp=>nomatch hp),(fun p hp=>nomatch hp),(fun e he _ h1=>by cases h1),.inr ⟨rfl,rfl⟩⟩
   ·rw [List.mem_singleton.mp hr']; exact one_ne
   ·rw [List.mem_singleton.mp hr']
    exact ⟨[st],.nil,fun y hy=>.inl (List.mem_singleton.mp hy)⟩
  dsimp only [gName]
  refine ⟨fun m σ H'=>∃ (kr kv:List (Key × V)) (RL:List (RE (Car kd))) (SL:List (Nat × List Nat)) (o5 o6 o7 o8:Option V),σ=[some (.ref np),some (.int (st:Int)),some (.ref kp),some (.ref dr),some (.ref ds),o5,o6,o7,o8]∧Same H H'∧H' dr=some (.dK kr)∧H' ds=some (.dK kv)∧IsRL H H' kd kr RL∧IsSL H H' kv SL∧DInv (ks kd ok) es st n (fun _=>True) SL RL∧m=openN n SL,
   ⟨_,_,_,_,[],_,_,_,_,rfl,s6,z56,z6,r6,.nil,I0,rfl⟩,?_⟩
  rintro m σ H7 ⟨kr,kv,RL,SL,o5,o6,o7,o8,rfl,s7,hdr,hds,rl7,sl7,I7,rfl⟩
  have rlen:RL.length≤8:=by
   have:=nd_len I7.rnd (n:=n) (fun x hx=>by obtain ⟨r,hr',rfl⟩:=List.mem_map.mp hx; exact I7.rlt r hr')
   rw [List.length_map] at this; omega
  have kl:kr.length=RL.length:=Paired.length rl7
  refine ⟨_,rfl,dr,kr,rfl,hdr,_,_,rfl,rfl,_,rfl,iteD (fun c=>?_) (fun c=>?_)⟩
  ·refine ⟨fun σ' H'=>_,fun _ _ z=>z,?_⟩
   have rne:RL≠[]:=fun z=>by rw [kl,z] at c; simp at c
   refine ⟨_,rfl,_,rfl,kp,dr,kd,ok,kr,RL,H,rfl,⟨kdx,s7 _ _ hk⟩,hK,hpk,htp,hdr,rl7,I7.rnd,rne,fun r H8 s8 hr' hmax=>?_⟩
   have hb:=I7.isBest hes hst htp hr' hmax
   have I8:=I7.settle hes hst htp hr' hmax
   have rlt:=I7.rlt r hr'
   have rS:=I7.rS r hr'
   have dr8:=s8 _ _ hdr
   have rl8:=rl7.tl (Same.tl s8)
   obtain ⟨va,ea,_,sa,ta,wa,la,rfl,a1,a2,a3,a4⟩:=rl_get rl8 I7.rnd hr'
   dsimp only [gName]
   refine ⟨_,rfl,dr,rfl,.inl ⟨kr,.inl dr8⟩,_,rfl,kr,Sum.inl (r.1:Int),.ref ta,dr8,rfl,ea,?_⟩
   have z9:=upd_same (H:=H8) (a:=dr) (o:=.dK (dropK kr (Sum.inl (r.1:Int))))
   have b9:SameBut dr H8 (upd H8 dr (.dK (dropK kr (Sum.inl (r.1:Int))))):=fun p u hp e=>by rw [upd_ne hp]; exact e
   have tl9:=tl_dict (o:=.dK (dropK kr (Sum.inl (r.1:Int)))) dr8
   have s9:Same H (upd H8 dr (.dK (dropK kr (Sum.inl (r.1:Int))))):=same_upd (s7.trans s8) ndr
   generalize upd H8 dr (.dK (dropK kr (Sum.inl (r.1:Int))))=H9 at z9 b9 tl9 s9
   have ds9:=b9 _ _ dsr (s8 _ _ hds)
   have rl9:=(rl_drop (v:=r.1) rl8).tl tl9
   have sl9:=(sl7.tl (Same.tl s8)).tl tl9
   have a19:=tl9.1 _ _ a1
   have a29:=a2.tl tl9
   have a39:=tl9.2 _ _ a3
   have slen:SL.length≤8:=by
    have:=nd_len I7.snd (n:=n) (fun x hx=>by obtain ⟨p,hp,rfl⟩:=List.mem_map.mp hx; exact I7.slt p hp)
    rw [List.length_map] at this; omega
   have kvl:kv.length=SL.length:=Paired.length sl7
   dsimp only [gName]
   refine ⟨_,rfl,ta,_,_,_,rfl,rfl,SqT.of a19,rfl,_,rfl,_,rfl,ds,_,rfl,DPut.k (k:=Sum.inl (r.1:Int)) ds9 (lines (by omega)),?_⟩
   rw [putK_new (.ref la) (sl_none sl9 rS)]
   have zA:=upd_same (H:=H9) (a:=ds) (o:=.dK (kv ++ [(Sum.inl (r.1:Int),V.ref la)]))
   have bA:SameBut ds H9 (upd H9 ds (.dK (kv ++ [(Sum.inl (r.1:Int),V.ref la)]))):=fun p u hp e=>by rw [upd_ne hp]; exact e
   have tlA:=tl_dict (o:=.dK (kv ++ [(Sum.inl (r.1:Int),V.ref la)])) ds9
   have sA:Same H (upd H9 ds (.dK (kv ++ [(Sum.inl (r.1:Int),V.ref la)]))):=same_upd s9 ndsH
   generalize upd H9 ds (.dK (kv ++ [(Sum.inl (r.1:Int),V.ref la)]))=HA at zA bA tlA sA
   have drA:=bA _ _ (Ne.symm dsr) z9
   have rlA:=rl9.tl tlA
   have a1A:=tlA.1 _ _ a19
   have a2A:=a29.tl tlA
   have a3A:=tlA.2 _ _ a39
   have slA:IsSL H HA (kv ++ [(Sum.inl (r.1:Int),V.ref la)]) (SL ++ [(r.1,r.2.2)]):=Paired.snoc (sl9.tl tlA) ⟨rfl,la,rfl,a3A,a4⟩
   have hS:(SL ++ [(r.1,r.2.2)]).map (·.1)=SL.map (·.1) ++ [r.1]:=by rw [List.map_append]; rfl
   have op:=open_lt (ks:=r.2.2) rlt rS
   obtain ⟨stp,wayr,stS⟩:=(I8.sway (r.1,r.2.2) (List.mem_append_right _ (List.mem_singleton.mpr rfl))).1
   have wayr:Way (ks kd ok) es st r.2.2 r.1 (best (ks kd ok) es st n r.1) stp:=wayr
   have sne:SL ++ [(r.1,r.2.2)]≠[]:=by simp
   have rin:r.1∈(SL ++ [(r.1,r.2.2)]).map (·.1):=by rw [hS]; exact List.mem_append_right _ (List.mem_singleton.mpr rfl)
   generalize SL ++ [(r.1,r.2.2)]=SL' at I8 slA op stS sne rin
   generalize RL.filter (fun r'=>decide (r'.1≠r.1))=RL' at I8 rlA
   generalize kv ++ [(Sum.inl (r.1:Int),V.ref la)]=kv' at zA slA
   generalize dropK kr (Sum.inl (r.1:Int))=kr' at drA rlA
   clear tlA bA tl9 b9 a19 a29 a39 sl9 rl9 ds9 z9 s9 a1 a2 a3 rl8 dr8 hS ea
   dsimp only [gName]
   refine ⟨_,rfl,(),np,dx,_,rfl,sA _ _ hx,rfl,np,kp,tp,kd,n,xs,_,rfl,N.same sA,fun lx nlx=>?_⟩
   have uB:=same_one (o:=.lst xs) nlx
   have zx:=upd_same (H:=HA) (a:=lx) (o:=.lst xs)
   have drB:=uB _ _ drA
   have dsB:=uB _ _ zA
   have rlB:=rlA.tl (Same.tl uB)
   have slB:=slA.tl (Same.tl uB)
   have a1B:=uB _ _ a1A
   have a2B:=a2A.same uB
   have a3B:=uB _ _ a3A
   have sB:=sA.trans uB
   have nlxH:H lx=none:=same_none sA nlx
   generalize upd HA lx (.lst xs)=HB at uB zx drB dsB rlB slB a1B a2B a3B sB
   refine ⟨lx,rfl,⟨xs,SqL.of zx⟩,for_enum (xs:=xs) (fun j σ H'=>∃ (kr:List (Key × V)) (RL:List (RE (Car kd))) (o7 o8:Option V),σ=[some (.ref np),some (.int (st:Int)),some (.ref kp),some (.ref dr),some (.ref ds),some (.int (r.1:Int)),some (.ref ta),o7,o8]∧Same H H'∧H' lx=some (.lst xs)∧H' dr=some (.dK kr)∧H' ds=some (.dK kv')∧IsRL H H' kd kr RL∧IsSL H H' kv' SL'∧H' ta=some (.tup [wa,.ref la])∧IsW H' wa (enc kd r.2.1)∧H' la=some (.lst (nats r.2.2))∧DInv (ks kd ok) es st n (fun e=>e.f≠r.1∨e∈es.take j) SL' RL)
    ⟨kr',RL',_,_,rfl,sB,zx,drB,dsB,rlB,slB,a1B,a2B,a3B,I8.more fun e _ hf hn=>absurd (hf.resolve_right (fun z=>by rw [List.take_zero] at z; cases z)) hn⟩ (fun j σ H' _ ⟨_,_,_,_,_,_,h,_⟩=>SqL.of h) ?_ ?_⟩
   ·rintro j x σ HC p1 ex ⟨krC,RLC,o7,o8,rfl,sC,zxC,drC,dsC,rlC,slC,a1C,a2C,a3C,IC⟩ np1
    have hj:j < es.length:=by have:=(List.getElem?_eq_some_iff.mp ex).1; omega
    have ee:es[j]?=some es[j]:=List.getElem?_eq_getElem hj
    obtain ⟨rd,er,pr,wr,rfl,f2,f3⟩:=pget N.rds ex
    rw [List.getElem?_map,ee] at er
    obtain rfl:Edge.road kd es[j]=rd:=Option.some.inj er
    have em:es[j]∈es:=List.getElem_mem hj
    have et:es.take (j + 1)=es.take j ++ [es[j]]:=(List.take_append_getElem hj).symm
    obtain ⟨g1,g2⟩:=hes es[j] em
    have sme:=Gr.sm es[j] em
    generalize es[j]=e at ee f2 f3 em et g1 g2 sme
    have uD:=same_one (o:=.tup [.int (j:Nat),.ref pr]) np1
    refine ⟨p1,_,rfl,SqT.of upd_same,rfl,_,_,rfl,_,_,rfl,rfl,?_⟩
    have sD:=sC.trans uD
    have zxD:=uD _ _ zxC
    have drD:=uD _ _ drC
    have dsD:=uD _ _ dsC
    have rlD:=rlC.tl (Same.tl uD)
    have slD:=slC.tl (Same.tl uD)
    have a1D:=uD _ _ a1C
    have a2D:=a2C.same uD
    have a3D:=uD _ _ a3C
    generalize upd HC p1 (.tup [.int (j:Nat),.ref pr])=HD at uD sD zxD drD dsD rlD slD a1D a2D a3D
    clear uD sC zxC drC dsC rlC slC a1C a2C a3C np1
    dsimp only [gName]
    have t7:=sD _ _ f2
    have new:∀ e'∈es,(e'.f≠r.1∨e'∈es.take (j + 1))→¬ (e'.f≠r.1∨e'∈es.take j)→e'=e∧e.f=r.1:=fun e' _ h1 h2=>by
     have hf:e'.f=r.1:=Classical.byContradiction fun z=>h2 (.inl z)
     have hm:=h1.resolve_left (fun z=>z hf)
     rw [et] at hm
     rcases List.mem_append.mp hm with hm | hm
     ·exact absurd (.inr hm) h2
     ·have:=List.mem_singleton.mp hm
      exact ⟨this,by rw [← this]; exact hf⟩
    have keep:DInv (ks kd ok) es st n (fun e=>e.f≠r.1∨e∈es.take (j + 1)) SL' RLC→∀ H',Same HD H'→∃ (kr:List (Key × V)) (RL:List (RE (Car kd))) (o7 o8:Option V),([some (.ref np),some (.int (st:Int)),some (.ref kp),some (.ref dr),some (.ref ds),some (.int (r.1:Int)),some (.ref ta),some (.int (j:Nat)),some (.ref pr)]:L2.St)=[some (.ref np),some (.int (st:Int)),some (.ref kp),some (.ref dr),some (.ref ds),some (.int (r.1:Int)),some (.ref ta),o7,o8]∧Same H H'∧H' lx=some (.lst xs)∧H' dr=some (.dK kr)∧H' ds=some (.dK kv')∧IsRL H H' kd kr RL∧IsSL H H' kv' SL'∧H' ta=some (.tup [wa,.ref la])∧IsW H' wa (enc kd r.2.1)∧H' la=some (.lst (nats r.2.2))∧DInv (ks kd ok) es st n (fun e=>e.f≠r.1∨e∈es.take (j + 1)) SL' RL:=fun I' H' s' =>
     ⟨krC,RLC,_,_,rfl,sD.trans s',s' _ _ zxD,s' _ _ drD,s' _ _ dsD,rlD.tl (Same.tl s'),slD.tl (Same.tl s'),s' _ _ a1D,a2D.same s',s' _ _ a3D,I'⟩
    refine ⟨_,rfl,pr,_,_,_,rfl,rfl,SqT.of t7,rfl,_,rfl,rfl,_,rfl,iteEqI (fun c1=>?_) (fun c1=>iteF (keep (IC.more fun e' he' h1 h2 _ _ _=>absurd (new e' he' h1 h2).2 (fun z=>c1 (congrArg Int.ofNat z))) HD (Same.refl HD)))⟩
    have ef:e.f=r.1:=Int.ofNat.inj c1
    by_cases ct:e.t∈SL'.map (·.1)
    ·obtain ⟨pS,hpS,ptS⟩:=List.mem_map.mp ct
     obtain ⟨vs,evs,_⟩:=sl_get slD IC.snd hpS
     rw [ptS] at evs
     have gs:DGet HD ds (.int (e.t:Int)) (some vs):=evs ▸ DGet.k (k:=Sum.inl (e.t:Int)) dsD
     refine ⟨_,rfl,pr,_,_,_,rfl,rfl,SqT.of t7,rfl,_,rfl,ds,_,rfl,gs,_,rfl,iteF ?_⟩
     exact keep (IC.more fun e' he' h1 h2 _ h4 _=>absurd (by rw [(new e' he' h1 h2).1]; exact ct) h4) HD (Same.refl HD)
    ·have gs:DGet HD ds (.int (e.t:Int)) none:=(sl_none slD ct) ▸ DGet.k (k:=Sum.inl (e.t:Int)) dsD
     refine ⟨_,rfl,pr,_,_,_,rfl,rfl,SqT.of t7,rfl,_,rfl,ds,_,rfl,gs,_,rfl,iteT ?_⟩
     refine ⟨_,rfl,_,rfl,_,rfl,pr,_,_,_,rfl,rfl,SqT.of t7,rfl,?_⟩
     refine ⟨_,rfl,⟨kd,hK⟩,kp,kdx,_,rfl,sD _ _ hk,kfs_no _ (by decide +kernel),_,rfl,ta,_,_,_,rfl,rfl,SqT.of a1D,rfl,_,rfl,pr,_,_,_,rfl,rfl,SqT.of t7,rfl,?_⟩
     refine ⟨kp,wa,wr,ok,r.2.1,e.c,rfl,⟨kdx,sD _ _ hk⟩,a2D,f3.same sD,sa.mono (by decide),sme.mono (by decide),fun vm HE sE wE=>?_⟩
     refine ⟨_,rfl,ta,_,_,_,rfl,rfl,SqT.of (sE _ _ a1D),rfl,_,rfl,(by show 1≤sizeLine; decide),fun l1 nl1=>?_⟩
     have uF:=same_one (o:=.lst [.int (j:Int)]) nl1
     have shr:=wayr.short hes hst
     refine ⟨la,l1,_,_,rfl,rfl,uF _ _ (sE _ _ a3D),upd_same,Nat.le_of_lt (lines (by rw [nats_len]; show r.2.2.length + 1≤1000; omega)),fun l2 nl2=>?_⟩
     have uG:=uF.trans (same_one (o:=.lst (nats r.2.2 ++ [.int (j:Int)])) nl2)
     have zG:(upd (upd HE l1 (.lst [.int (j:Int)])) l2 (.lst (nats r.2.2 ++ [.int (j:Int)]))) l2=some (.lst (nats (r.2.2 ++ [j]))):=by
      rw [upd_same]; unfold nats; rw [List.map_append]; rfl
     have l2n:H l2=none:=same_none ((sD.trans sE).trans uF) nl2
     generalize upd (upd HE l1 (.lst [.int (j:Int)])) l2 (.lst (nats r.2.2 ++ [.int (j:Int)]))=HG at uG zG
     have sDG:=sE.trans uG
     have eb:(ks kd ok).mul r.2.1 e.c=(ks kd ok).mul (best (ks kd ok) es st n e.f) e.c:=by rw [ef,hb]
     have etst:e.t ∉ stp:=fun z=>ct (stS _ z)
     have wnew:Way (ks kd ok) es st (r.2.2 ++ [j]) e.t ((ks kd ok).mul (best (ks kd ok) es st n r.1) e.c) (stp ++ [e.t]):=.snoc wayr ee ef etst
     have smn:Sm BR (enc kd ((ks kd ok).mul r.2.1 e.c)):=by
      have:=wnew.sm Gr.sm
      rw [← hb]
      exact this.mono (by rw [List.length_append,List.length_singleton]; show 212 * (r.2.2.length + 1) + 40≤60000; omega)
     have rlenC:RLC.length≤100:=by
      have:=nd_len IC.rnd (n:=n) (fun x hx=>by obtain ⟨r,hr',rfl⟩:=List.mem_map.mp hx; exact IC.rlt r hr')
      rw [List.length_map] at this; omega
     refine ⟨kp,dr,l2,vm,kd,ok,e.t,(ks kd ok).mul r.2.1 e.c,r.2.2 ++ [j],krC,RLC,H,rfl,⟨kdx,(sD.trans sDG) _ _ hk⟩,hK,hpk,sDG _ _ drD,rlD.tl (Same.tl sDG),IC.rnd,rlenC,wE.same uG,smn,zG,l2n,fun xz H' s'=>?_,fun xz hex H' s'=>?_,fun xz hall kr'' H' b' hdr' rl'=>?_⟩
     ·exact keep (IC.more fun e' he' h1 h2 _ _ h5=>absurd (by rw [(new e' he' h1 h2).1,← eb]; exact xz) h5) H' (sDG.trans s')
     ·refine keep (IC.more fun e' he' h1 h2 _ _ h5=>?_) H' (sDG.trans s')
      obtain ⟨r',hr2,rt,le⟩:=hex
      rw [(new e' he' h1 h2).1]
      exact ⟨r',hr2,rt,by rw [← eb]; exact le⟩
     ·have sH':Same H H':=fun p u ep=>b' p u (fun z=>by rw [z,ndr] at ep; cases ep) ((sD.trans sDG) p u ep)
      have nn:∀ {p:Addr} {u:HO},HG p=some u→(∀ kvs,u≠.dK kvs)→H' p=some u:=fun {p u} ep hu=>b' p u (fun z=>by rw [z,sDG _ _ drD] at ep; exact hu _ (Option.some.inj ep).symm) ep
      have tlH:KeepTL HG H':=⟨fun p ys ep=>nn ep (fun _ z=>nomatch z),fun p ys ep=>nn ep (fun _ z=>nomatch z)⟩
      refine ⟨kr'',putR RLC (e.t,(ks kd ok).mul r.2.1 e.c,r.2.2 ++ [j]),_,_,rfl,sH',tlH.2 _ _ (sDG _ _ zxD),hdr',b' _ _ dsr (sDG _ _ dsD),rl',(slD.tl (Same.tl sDG)).tl tlH,tlH.1 _ _ (sDG _ _ a1D),(a2D.same sDG).tl tlH,tlH.2 _ _ (sDG _ _ a3D),?_⟩
      refine IC.put (r:=(e.t,(ks kd ok).mul r.2.1 e.c,r.2.2 ++ [j])) ct g2 xz ⟨stp ++ [e.t],by rw [← hb]; exact wnew,fun y hy=>?_⟩ hall sne (fun e' he' h1 h2 _ _ _=>?_)
      ·rcases List.mem_append.mp hy with hy | hy
       ·exact .inr (stS y hy)
       ·exact .inl (List.mem_singleton.mp hy)
      ·refine ⟨_,mem_put _,by rw [(new e' he' h1 h2).1],?_⟩
       rw [(new e' he' h1 h2).1,← eb]
       exact le_refl _ _
   ·rintro σ HC ⟨krC,RLC,o7,o8,rfl,sC,zxC,drC,dsC,rlC,slC,a1C,a2C,a3C,IC⟩
    rw [hxl,List.take_length] at IC
    exact ⟨openN n SL',op,krC,kv',RLC,SL',_,_,_,_,rfl,sC,drC,dsC,rlC,slC,IC.more (fun e he _ hn=>absurd (.inr he) hn),rfl⟩
  ·have rz:RL=[]:=by
    have:RL.length=0:=by
     have c:¬ ((kr.length:Int) > 0):=c
     omega
    exact List.length_eq_zero_iff.mp this
   subst rz
   refine ⟨_,rfl,q ds kv SL H7 s7 hds sl7 I7.snd (fun v=>I7.done hes hst htp) (fun p hp=>?_)⟩
   obtain ⟨⟨stp,wy,_⟩,_⟩:=I7.sway p hp
   exact ⟨stp,wy⟩
end
end K15
namespace K15
open PySem L2 Ws
seal PE PT PW PA PC PS PSs PG PGs PI PO PJ PTs
section
variable {P : Program} {w : World} {K : W.Frag} {mg : Str → Option Value} {base : Heap} {a : Adr}
def picksK:Kd→Bool
 | .fewest | .widest | .likeliest=>true
 | _=>false
def spPicks (a:Adr) (kd:Kd):Sp:=fun vs H Q _=>∃ p:Addr,vs=[.ref p]∧Q (.bl (picksK kd)) H
theorem len_picks {kd:Kd} {vs:List V} {H:Hp} {Q:VK} {E:XK} (h:spPicks a kd vs H Q E):vs.length=1:=by
 obtain ⟨_,rfl,_⟩:=h
 rfl
theorem sc_Fewest_picks:FnScope ["self"] ["self"] (defScope (inClass (top 24) 5)):=⟨rfl,rfl,rfl,by decide +kernel,rfl,by decide +kernel,by decide +kernel⟩
theorem sc_Widest_picks:FnScope ["self"] ["self"] (defScope (inClass (top 25) 5)):=⟨rfl,rfl,rfl,by decide +kernel,rfl,by decide +kernel,by decide +kernel⟩
theorem sc_Kind_picks:FnScope ["self"] ["self"] (defScope (inClass (top 23) 6)):=⟨rfl,rfl,rfl,by decide +kernel,rfl,by decide +kernel,by decide +kernel⟩
theorem sc_Likeliest_picks:FnScope ["self"] ["self"] (defScope (inClass (top 27) 5)):=⟨rfl,rfl,rfl,by decide +kernel,rfl,by decide +kernel,by decide +kernel⟩
structure At_picks (K:W.Frag) (a:Adr):Prop where
 fFewest:MthAt K a.cFewest "picks" "Fewest.picks" (inClass (top 24) 5)
 fWidest:MthAt K a.cWidest "picks" "Widest.picks" (inClass (top 25) 5)
 fCounted:MthAt K a.cCounted "picks" "Kind.picks" (inClass (top 23) 6)
 fLikeliest:MthAt K a.cLikeliest "picks" "Likeliest.picks" (inClass (top 27) 5)
 fChances:MthAt K a.cChances "picks" "Kind.picks" (inClass (top 23) 6)
 fMusts:MthAt K a.cMusts "picks" "Kind.picks" (inClass (top 23) 6)
 fRests:MthAt K a.cRests "picks" "Kind.picks" (inClass (top 23) 6)
theorem v_picks (T:Tx K mg a) (F:At_picks K a):Mth P w K mg base 1 a.cl "picks" ["self"] (fun i=>spPicks a i.1):=by
 refine ⟨fun ⟨kd,hk⟩=>?_⟩
 cases kd with
 | fewest =>
  refine m_of hk T F.fFewest (fun _ _ _ _ _ _ us hl=>match us,hl with | [_],_=>rfl) fun f fd F=>F.okN sc_Fewest_picks (fun _ _ _ _=>len_picks) (fun cdv A outer s H vs Q E hr h=>?_)
  obtain ⟨p,rfl,q⟩:=h
  exact ⟨_,(pss_one (ps_ret pe_bl)),q⟩
 | widest =>
  refine m_of hk T F.fWidest (fun _ _ _ _ _ _ us hl=>match us,hl with | [_],_=>rfl) fun f fd F=>F.okN sc_Widest_picks (fun _ _ _ _=>len_picks) (fun cdv A outer s H vs Q E hr h=>?_)
  obtain ⟨p,rfl,q⟩:=h
  exact ⟨_,(pss_one (ps_ret pe_bl)),q⟩
 | counted =>
  refine m_of hk T F.fCounted (fun _ _ _ _ _ _ us hl=>match us,hl with | [_],_=>rfl) fun f fd F=>F.okN sc_Kind_picks (fun _ _ _ _=>len_picks) (fun cdv A outer s H vs Q E hr h=>?_)
  obtain ⟨p,rfl,q⟩:=h
  exact ⟨_,(pss_one (ps_ret pe_bl)),q⟩
 | likeliest =>
  refine m_of hk T F.fLikeliest (fun _ _ _ _ _ _ us hl=>match us,hl with | [_],_=>rfl) fun f fd F=>F.okN sc_Likeliest_picks (fun _ _ _ _=>len_picks) (fun cdv A outer s H vs Q E hr h=>?_)
  obtain ⟨p,rfl,q⟩:=h
  exact ⟨_,(pss_one (ps_ret pe_bl)),q⟩
 | chances =>
  refine m_of hk T F.fChances (fun _ _ _ _ _ _ us hl=>match us,hl with | [_],_=>rfl) fun f fd F=>F.okN sc_Kind_picks (fun _ _ _ _=>len_picks) (fun cdv A outer s H vs Q E hr h=>?_)
  obtain ⟨p,rfl,q⟩:=h
  exact ⟨_,(pss_one (ps_ret pe_bl)),q⟩
 | musts =>
  refine m_of hk T F.fMusts (fun _ _ _ _ _ _ us hl=>match us,hl with | [_],_=>rfl) fun f fd F=>F.okN sc_Kind_picks (fun _ _ _ _=>len_picks) (fun cdv A outer s H vs Q E hr h=>?_)
  obtain ⟨p,rfl,q⟩:=h
  exact ⟨_,(pss_one (ps_ret pe_bl)),q⟩
 | rests m =>
  refine m_of (kd:=.rests m) hk T F.fRests (fun _ _ _ _ _ _ us hl=>match us,hl with | [_],_=>rfl) fun f fd F=>F.okN sc_Kind_picks (fun _ _ _ _=>len_picks) (fun cdv A outer s H vs Q E hr h=>?_)
  obtain ⟨p,rfl,q⟩:=h
  exact ⟨_,(pss_one (ps_ret pe_bl)),q⟩
end
end K15
namespace K15
open PySem L2 Ws
seal PE PT PW PA PC PS PSs PG PGs PI PO PJ PTs
section
variable {P : Program} {w : World} {K : W.Frag} {mg : Str → Option Value} {base : Heap} {a : Adr}
def spWF (a:Adr):Sp:=fun vs H Q E=>∃ (np kp tp:Addr) (kd:Kd) (ok:KdOk kd) (n:Nat) (p o:Int) (xs:List V) (es:List (Edge (Car kd))),vs=[.ref np,.int p,.int o]∧NetIs a H np kd n kp tp xs (es.map (Edge.road kd))∧HasK kd∧Graph kd n es∧es.length≤64∧p.natAbs < 10 ^ 62∧o.natAbs < 10 ^ 62 ∧
 (¬ ((0≤p∧p < n)∧0≤o∧o < n)→E (.ref a.cNoPlace) none H) ∧
 ((0≤p∧p < n)∧0≤o∧o < n→picksK kd=false→E (.ref a.cNoPick) none H) ∧
 ((0≤p∧p < n)∧0≤o∧o < n→picksK kd=true→best (ks kd ok) es p.toNat n o.toNat=(ks kd ok).zero→∀ H',Same H H'→E (.ref a.cNoWay) none H') ∧
 ((0≤p∧p < n)∧0≤o∧o < n→picksK kd=true→best (ks kd ok) es p.toNat n o.toNat≠(ks kd ok).zero→∀ l kz st H',Same H H'→H l=none→H' l=some (.lst (nats kz))→Way (ks kd ok) es p.toNat kz o.toNat (best (ks kd ok) es p.toNat n o.toNat) st→Q (.ref l) H')
theorem kno_picks {kd:Kd} (h:picksK kd=true):kno kd=0∨kno kd=1∨kno kd=3:=by
 cases kd with
 | fewest=>exact .inl rfl
 | widest=>exact .inr (.inl rfl)
 | likeliest=>exact .inr (.inr rfl)
 | _=>cases h
theorem sc_way_for:FnScope ["net","place","other","ways"] ["net","place","other"] (defScope (top 53)):=⟨rfl,rfl,rfl,by decide +kernel,rfl,by decide +kernel,by decide +kernel⟩
theorem d_way_for (T:Tx K mg a) (D_check_place:Dn P w K mg base 2 "check_place" ["net","place"] (spPlace a)) (V_kind:Mth P w K mg base 1 (fun _:Unit=>a.cNet) "kind" ["self"] (fun _=>spNKind a)) (V_picks:Mth P w K mg base 1 a.cl "picks" ["self"] (fun i=>spPicks a i.1)) (D_best_ways:Dn P w K mg base 38 "best_ways" ["net","start"] (spBW a)) (F:DefAt K mg "way_for" (top 53)):Dn P w K mg base 39 "way_for" ["net","place","other"] (spWF a):=by
 obtain ⟨f,fd,hm,F⟩:=F.ex
 refine ⟨f,fd,hm,F.kp,F.binds fun _ _ _ _ _ _ us hl=>match us,hl with | [_,_,_],_=>rfl,?_⟩
 refine F.okX sc_way_for (fun vs H Q E h=>?_) (fun cdv A outer s H vs Q E hr h=>?_)
 ·obtain ⟨_,_,_,_,_,_,_,_,_,_,rfl,_⟩:=h
  rfl
 ·obtain ⟨np,kp,tp,kd,ok,n,p,o,xs,es,rfl,N,hK,Gr,h64,hp,ho,e1,e2,e3,q⟩:=h
  refine ⟨_,(pss_cons (ps_expr (pe_callD D_check_place (hr.mono (by decide)) rfl pass_cx (pa_cons (hs:=st_Name) (pv 0) (pa_cons (hs:=st_Name) (pv 1) pa_nil))))
   (pss_cons (ps_expr (pe_callD D_check_place (hr.mono (by decide)) rfl pass_cx (pa_cons (hs:=st_Name) (pv 0) (pa_cons (hs:=st_Name) (pv 2) pa_nil))))
   (pss_cons (ps_if (pt_not (pt_val (pe_methV0 (pe_methV0 (pv 0) V_kind (hr.mono (by decide)) pass_cx) V_picks (hr.mono (by decide)) pass_cx) (fun _=>rfl))) (pss_one (ps_raise T.x_NoPick rfl rfl rais_cx (pa_cons (hs:=st_Constant) pe_str pa_nil))) pss_nil)
   (pss_cons (ps_set (i:=3) sc_way_for.nd rfl (Or.inl rfl) (pe_callD D_best_ways (hr.mono (by decide)) rfl pass_cx (pa_cons (hs:=st_Name) (pv 0) (pa_cons (hs:=st_Name) (pv 1) pa_nil))))
   (pss_cons (ps_if (pt_cmp (pc_dnotin (hr.al 0) (pv 2) (pv 3))) (pss_one (ps_raise T.x_NoWay rfl rfl rais_cx (pa_cons (hs:=st_JoinedStr) (pe_fstrN (pj_str (pj_int (pv 1) (pj_str (pj_int (pv 2) pj_nil))))) pa_nil))) pss_nil)
   (pss_one (ps_ret (pe_dget (hr.al 0) (pv 3) (pv 2) (fun _ _=>rfl))))))))),?_⟩
  have hs1:(Str.ofString "no way leads from place ").length≤1000:=by decide +kernel
  have hs2:(Str.ofString " to place ").length≤1000:=by decide +kernel
  obtain ⟨dx,hx⟩:=N.ins
  obtain ⟨kdx,hk⟩:=N.kind
  refine ⟨_,rfl,_,rfl,np,p,kd,n,kp,tp,xs,_,rfl,N,hp,fun hin=>?_,fun z=>e1 fun y=>z y.1⟩
  refine ⟨_,rfl,_,rfl,np,o,kd,n,kp,tp,xs,_,rfl,N,ho,fun hon=>?_,fun z=>e1 fun y=>z y.2⟩
  have both:(0≤p∧p < n)∧0≤o∧o < n:=⟨hin,hon⟩
  refine ⟨_,rfl,(),np,dx,_,rfl,hx,rfl,np,kp,tp,kd,n,xs,_,rfl,N,⟨kd,hK⟩,kp,kdx,_,rfl,hk,kfs_no _ (by decide +kernel),kp,rfl,?_⟩
  cases hb:picksK kd with
  | false=>exact ⟨_,rfl,iteT ⟨by show 1≤sizeLine; decide,e2 both hb⟩⟩
  | true =>
   have hpk:Picks (ks kd ok):=picks_kd (kno_picks hb)
   have htp:Tops (ks kd ok):=tops_kd (by have:=kno_picks hb; omega)
   obtain ⟨p0,rfl⟩:∃ p0:Nat,p=p0:=⟨p.toNat,by omega⟩
   obtain ⟨o0,rfl⟩:∃ o0:Nat,o=o0:=⟨o.toNat,by omega⟩
   rw [Int.toNat_natCast,Int.toNat_natCast] at e3 q
   refine ⟨_,rfl,iteF ⟨_,rfl,_,rfl,np,kp,tp,kd,ok,n,p0,xs,es,rfl,N,hK,hpk,htp,Gr,h64,by omega,fun d kvs SL H' s' hd sl nd mem ways=>?_⟩⟩
   by_cases c:best (ks kd ok) es p0 n o0=(ks kd ok).zero
   ·have gs:DGet H' d (.int (o0:Int)) none:=(sl_none sl (fun z=>(mem o0).mp z c)) ▸ DGet.k (k:=Sum.inl (o0:Int)) hd
    refine ⟨_,rfl,_,rfl,d,_,rfl,gs,_,rfl,iteT ?_⟩
    exact ⟨hs1,_,rfl,_,rfl,log2_small hp,hs2,_,rfl,_,rfl,log2_small ho,fun z=>⟨by show 1≤sizeLine; decide,e3 both hb c H' s'⟩⟩
   ·obtain ⟨pS,hpS,ptS⟩:=List.mem_map.mp ((mem o0).mpr c)
    obtain ⟨vs,evs,_,lw,e4,e5,e6⟩:=sl_get sl nd hpS
    obtain ⟨st,wy⟩:=ways pS hpS
    rw [ptS] at evs wy
    have gs:DGet H' d (.int (o0:Int)) (some vs):=evs ▸ DGet.k (k:=Sum.inl (o0:Int)) hd
    refine ⟨_,rfl,_,rfl,d,_,rfl,gs,_,rfl,iteF ?_⟩
    refine ⟨_,rfl,_,rfl,d,_,rfl,gs,?_⟩
    rw [show vs=.ref lw from e4]
    exact q both hb c lw pS.2 st H' s' e6 e5 wy
end
end K15
namespace K15
open PySem L2 Ws
seal PE PT PW PA PC PS PSs PG PGs PI PO PJ PTs
section
variable {P : Program} {w : World} {K : W.Frag} {mg : Str → Option Value} {base : Heap} {a : Adr}
def spNo:Sp:=fun _ _ _ _=>False
theorem sc_stepped:FnScope ["kind","places","roads","place","steps","worths","step","further","road","longer"] ["kind","places","roads","place","steps"] (defScope (top 44)):=⟨rfl,rfl,rfl,by decide +kernel,rfl,by decide +kernel,by decide +kernel⟩
theorem d_stepped (T:Tx K mg a) (F:DefAt K mg "stepped" (top 44)):Dn P w K mg base 36 "stepped" ["kind","places","roads","place","steps"] spNo:=by
 obtain ⟨f,fd,hm,F⟩:=F.ex
 refine ⟨f,fd,hm,F.kp,F.binds fun _ _ _ _ _ _ us hl=>match us,hl with | [_,_,_,_,_],_=>rfl,?_⟩
 exact F.okN sc_stepped (fun vs H Q E h=>h.elim) (fun cdv A outer s H vs Q E hr h=>h.elim)
theorem sc_chance_by_steps:FnScope ["net","place","other","steps","below","parts","counts","below_all","step"] ["net","place","other","steps"] (defScope (top 45)):=⟨rfl,rfl,rfl,by decide +kernel,rfl,by decide +kernel,by decide +kernel⟩
theorem d_chance_by_steps (T:Tx K mg a) (F:DefAt K mg "chance_by_steps" (top 45)):Dn P w K mg base 37 "chance_by_steps" ["net","place","other","steps"] spNo:=by
 obtain ⟨f,fd,hm,F⟩:=F.ex
 refine ⟨f,fd,hm,F.kp,F.binds fun _ _ _ _ _ _ us hl=>match us,hl with | [_,_,_,_],_=>rfl,?_⟩
 exact F.okN sc_chance_by_steps (fun vs H Q E h=>h.elim) (fun cdv A outer s H vs Q E hr h=>h.elim)
def spBySt (a:Adr):Sp:=fun vs H Q E=>∃ (np kp tp:Addr) (kd:Kd) (n:Nat) (p o k:Int) (xs:List V) (rs:List Road),vs=[.ref np,.int p,.int o,.int k]∧NetIs a H np kd n kp tp xs rs∧p.natAbs < 10 ^ 62∧o.natAbs < 10 ^ 62∧k.natAbs < 10 ^ 62 ∧
 (¬ ((0≤p∧p < n)∧(0≤o∧o < n))→E (.ref a.cNoPlace) none H)∧((0≤p∧p < n)∧(0≤o∧o < n)→¬ (0≤k∧k≤40)∧E (.ref a.cNoSteps) none H)
theorem sc_by_steps:FnScope ["net","place","other","steps"] ["net","place","other","steps"] (defScope (top 43)):=⟨rfl,rfl,rfl,by decide +kernel,rfl,by decide +kernel,by decide +kernel⟩
theorem d_by_steps (T:Tx K mg a) (D_check_place:Dn P w K mg base 2 "check_place" ["net","place"] (spPlace a)) (V_kind:Mth P w K mg base 1 (fun _:Unit=>a.cNet) "kind" ["self"] (fun _=>spNKind a)) (V_places:Mth P w K mg base 1 (fun _:Unit=>a.cNet) "places" ["self"] (fun _=>spNPlaces a)) (V_roads:Mth P w K mg base 1 (fun _:Unit=>a.cNet) "roads" ["self"] (fun _=>spNRoads a))
  (D_chance_by_steps:Dn P w K mg base 37 "chance_by_steps" ["net","place","other","steps"] spNo) (D_stepped:Dn P w K mg base 36 "stepped" ["kind","places","roads","place","steps"] spNo) (F:DefAt K mg "by_steps" (top 43)):Dn P w K mg base 38 "by_steps" ["net","place","other","steps"] (spBySt a):=by
 obtain ⟨f,fd,hm,F⟩:=F.ex
 refine ⟨f,fd,hm,F.kp,F.binds fun _ _ _ _ _ _ us hl=>match us,hl with | [_,_,_,_],_=>rfl,?_⟩
 refine F.okX sc_by_steps (fun vs H Q E h=>?_) (fun cdv A outer s H vs Q E hr h=>?_)
 ·obtain ⟨_,_,_,_,_,_,_,_,_,_,rfl,_⟩:=h
  rfl
 ·obtain ⟨np,kp,tp,kd,n,p,o,k,xs,rs,rfl,N,hp,ho,hk,e1,e2⟩:=h
  refine ⟨_,(pss_cons (ps_expr (pe_callD D_check_place (hr.mono (by decide)) rfl pass_cx (pa_cons (hs:=st_Name) (pv 0) (pa_cons (hs:=st_Name) (pv 1) pa_nil))))
   (pss_cons (ps_expr (pe_callD D_check_place (hr.mono (by decide)) rfl pass_cx (pa_cons (hs:=st_Name) (pv 0) (pa_cons (hs:=st_Name) (pv 2) pa_nil))))
   (pss_cons (ps_if (PW.pt (pw_or (pt_cmpR op_lt (pv 3) pe_int (nomark _)) (pw_or1 (pt_cmpR op_gt (pv 3) (pe_glob (v:=V.int 40) rfl T.c_MOST_STEPS ⟨_,rfl⟩) (nomark _))))) (pss_one (ps_raise T.x_NoSteps rfl rfl rais_cx (pa_cons (hs:=st_JoinedStr) (pe_fstr2 (pv 3)) pa_nil))) pss_nil)
   (pss_cons (ps_if (pt_val (pe_callB call_isinst rfl T.b_isinstance bt_isinstance (pa_cons (hs:=st_Call) (pe_methV0 (pv 0) V_kind (hr.mono (by decide)) pass_cx) (pa_cons (hs:=st_Name) (pe_glob (v:=V.ref a.cChances) rfl T.g_Chances rfl) pa_nil))) (fun _=>rfl)) (pss_one (ps_ret (pe_callD D_chance_by_steps (hr.mono (by decide)) rfl pass_cx (pa_cons (hs:=st_Name) (pv 0) (pa_cons (hs:=st_Name) (pv 1) (pa_cons (hs:=st_Name) (pv 2) (pa_cons (hs:=st_Name) (pv 3) pa_nil))))))) pss_nil)
   (pss_one (ps_ret (pe_ix ix_list (pe_callD D_stepped (hr.mono (by decide)) rfl pass_cx (pa_cons (hs:=st_Call) (pe_methV0 (pv 0) V_kind (hr.mono (by decide)) pass_cx) (pa_cons (hs:=st_Call) (pe_methV0 (pv 0) V_places (hr.mono (by decide)) pass_cx) (pa_cons (hs:=st_Call) (pe_methV0 (pv 0) V_roads (hr.mono (by decide)) pass_cx) (pa_cons (hs:=st_Name) (pv 1) (pa_cons (hs:=st_Name) (pv 3) pa_nil)))))) (pv 2) (fun _ _=>rfl)))))))),?_⟩
  have hs:(Str.ofString "ways are told of 0 to 40 roads, not of ").length≤1000:=by decide +kernel
  refine ⟨_,rfl,_,rfl,np,p,kd,n,kp,tp,xs,_,rfl,N,hp,fun h1=>?_,fun z=>e1 fun y=>z y.1⟩
  refine ⟨_,rfl,_,rfl,np,o,kd,n,kp,tp,xs,_,rfl,N,ho,fun h2=>?_,fun z=>e1 fun y=>z y.2⟩
  obtain ⟨nk,e2⟩:=e2 ⟨h1,h2⟩
  refine ⟨_,rfl,_,_,rfl,rfl,_,rfl,iteD (fun c=>?_) (fun c=>?_)⟩
  ·exact ⟨hs,_,rfl,_,rfl,log2_small hk,fun z=>⟨by show 1≤sizeLine; decide,e2⟩⟩
  refine ⟨_,rfl,_,_,rfl,rfl,_,rfl,iteD (fun c2=>?_) (fun c2=>?_)⟩
  ·exact ⟨hs,_,rfl,_,rfl,log2_small hk,fun z=>⟨by show 1≤sizeLine; decide,e2⟩⟩
  ·omega
def spTotX (a:Adr):Sp:=fun vs H Q E=>∃ (np kp tp:Addr) (kd:Kd) (n:Nat) (p o:Int) (xs:List V) (rs:List Road),vs=[.ref np,.int p,.int o]∧NetIs a H np kd n kp tp xs rs∧p.natAbs < 10 ^ 62∧o.natAbs < 10 ^ 62 ∧
 (¬ ((0≤p∧p < n)∧(0≤o∧o < n))→E (.ref a.cNoPlace) none H) ∧
 ((0≤p∧p < n)∧(0≤o∧o < n)→∃ (ok:KdOk kd) (es:List (Edge (Car kd))),rs=es.map (Edge.road kd)∧HasK kd∧Graph kd n es∧es.length≤64∧TFits kd ok es n∧stageA (ks kd ok) (edgeM (ks kd ok) es) n=none∧∀ H',Same H H'→E (.ref a.cNoSum) none H')
theorem sc_total:FnScope ["net","place","other"] ["net","place","other"] (defScope (top 50)):=⟨rfl,rfl,rfl,by decide +kernel,rfl,by decide +kernel,by decide +kernel⟩
theorem d_total (T:Tx K mg a) (D_check_place:Dn P w K mg base 2 "check_place" ["net","place"] (spPlace a)) (D_table:Dn P w K mg base 38 "table" ["net"] (spTable a)) (F:DefAt K mg "total" (top 50)):Dn P w K mg base 39 "total" ["net","place","other"] (spTotX a):=by
 obtain ⟨f,fd,hm,F⟩:=F.ex
 refine ⟨f,fd,hm,F.kp,F.binds fun _ _ _ _ _ _ us hl=>match us,hl with | [_,_,_],_=>rfl,?_⟩
 refine F.okX sc_total (fun vs H Q E h=>?_) (fun cdv A outer s H vs Q E hr h=>?_)
 ·obtain ⟨_,_,_,_,_,_,_,_,_,rfl,_⟩:=h
  rfl
 ·obtain ⟨np,kp,tp,kd,n,p,o,xs,rs,rfl,N,hp,ho,e1,e2⟩:=h
  refine ⟨_,(pss_cons (ps_expr (pe_callD D_check_place (hr.mono (by decide)) rfl pass_cx (pa_cons (hs:=st_Name) (pv 0) (pa_cons (hs:=st_Name) (pv 1) pa_nil))))
   (pss_cons (ps_expr (pe_callD D_check_place (hr.mono (by decide)) rfl pass_cx (pa_cons (hs:=st_Name) (pv 0) (pa_cons (hs:=st_Name) (pv 2) pa_nil))))
   (pss_one (ps_ret (pe_ix ix_list (pe_ix ix_list (pe_callD D_table (hr.mono (by decide)) rfl pass_cx (pa_cons (hs:=st_Name) (pv 0) pa_nil)) (pv 1) (fun _ _=>rfl)) (pv 2) (fun _ _=>rfl)))))),?_⟩
  refine ⟨_,rfl,_,rfl,np,p,kd,n,kp,tp,xs,_,rfl,N,hp,fun h1=>?_,fun z=>e1 fun y=>z y.1⟩
  refine ⟨_,rfl,_,rfl,np,o,kd,n,kp,tp,xs,_,rfl,N,ho,fun h2=>?_,fun z=>e1 fun y=>z y.2⟩
  obtain ⟨ok,es,rfl,hK,G,h64,TF,hn,e2⟩:=e2 ⟨h1,h2⟩
  exact ⟨_,rfl,np,kp,tp,kd,ok,n,xs,es,rfl,N,hK,G,h64,TF,by omega,fun _=>e2,fun A hA=>by rw [hn] at hA; cases hA⟩
def spWoX (a:Adr):Sp:=fun vs H Q E=>∃ (np kp tp:Addr) (kd:Kd) (n:Nat) (p:Int) (xs:List V) (rs:List Road),vs=[.ref np,.int p]∧NetIs a H np kd n kp tp xs rs∧p.natAbs < 10 ^ 62 ∧
 (n=1→E (.ref a.cNoNet) none H)∧(n≠1→¬ (0≤p∧p < n)→E (.ref a.cNoPlace) none H) ∧
 (n≠1→0≤p∧p < n→∃ (ok:KdOk kd) (es:List (Edge (Car kd))),rs=es.map (Edge.road kd)∧HasK kd∧Graph kd n es∧es.length≤64∧(ks kd ok).star (edgeM (ks kd ok) es p.toNat p.toNat)=none∧∀ H',Same H H'→E (.ref a.cNoSum) none H')
theorem sc_without:FnScope ["net","place","kind","rows","left","roads","start","one","end","other"] ["net","place"] (defScope (top 51)):=⟨rfl,rfl,rfl,by decide +kernel,rfl,by decide +kernel,by decide +kernel⟩
theorem d_without (T:Tx K mg a) (V_kind:Mth P w K mg base 1 (fun _:Unit=>a.cNet) "kind" ["self"] (fun _=>spNKind a)) (V_places:Mth P w K mg base 1 (fun _:Unit=>a.cNet) "places" ["self"] (fun _=>spNPlaces a)) (V_none:Mth P w K mg base 1 a.cl "none" ["self"] (fun i=>spZero a i.1))
  (D_check_place:Dn P w K mg base 2 "check_place" ["net","place"] (spPlace a)) (D_straight:Dn P w K mg base 36 "straight" ["net"] (spStraight a)) (D_led_through:Dn P w K mg base 37 "led_through" ["kind","rows","middle"] (spLed a)) (M_Net:Mkr P w K mg base 38 "Net" a.cNet ["self","kind","places","roads"] (spNet a))
  (F:DefAt K mg "without" (top 51)):Dn P w K mg base 40 "without" ["net","place"] (spWoX a):=by
 obtain ⟨f,fd,hm,F⟩:=F.ex
 refine ⟨f,fd,hm,F.kp,F.binds fun _ _ _ _ _ _ us hl=>match us,hl with | [_,_],_=>rfl,?_⟩
 refine F.okX sc_without (fun vs H Q E h=>?_) (fun cdv A outer s H vs Q E hr h=>?_)
 ·obtain ⟨_,_,_,_,_,_,_,_,rfl,_⟩:=h
  rfl
 ·obtain ⟨np,kp,tp,kd,n,p,xs,rs,rfl,N,hp,e1,e2,e3⟩:=h
  refine ⟨_,(pss_cons (ps_if (pt_cmpR op_eq (pe_methV0 (pv 0) V_places (hr.mono (by decide)) pass_cx) pe_int (nomark _)) (pss_one (ps_raise T.x_NoNet rfl rfl rais_cx (pa_cons (hs:=st_Constant) pe_str pa_nil))) pss_nil)
   (pss_cons (ps_expr (pe_callD D_check_place (hr.mono (by decide)) rfl pass_cx (pa_cons (hs:=st_Name) (pv 0) (pa_cons (hs:=st_Name) (pv 1) pa_nil))))
   (pss_cons (ps_set (i:=2) sc_without.nd rfl (Or.inl rfl) (pe_methV0 (pv 0) V_kind (hr.mono (by decide)) pass_cx))
   (pss_cons (ps_set (i:=3) sc_without.nd rfl (Or.inl rfl) (pe_callD D_led_through (hr.mono (by decide)) rfl pass_cx (pa_cons (hs:=st_Name) (pv 2) (pa_cons (hs:=st_Call) (pe_callD D_straight (hr.mono (by decide)) rfl pass_cx (pa_cons (hs:=st_Name) (pv 0) pa_nil)) (pa_cons (hs:=st_Name) (pv 1) pa_nil)))))
   (pss_cons (ps_setC (i:=4) sc_without.nd rfl rfl (N:=["net","place","kind","rows","left","roads","start","one","end","other"]) (osc:=defScope (top 51)) (k:=1) (N':=["each","place"]) (fr:=[1]) ⟨rfl,by decide +kernel,by decide +kernel,by decide +kernel,rfl,by decide +kernel,by decide +kernel⟩ rfl rfl rfl (pi_range1 rfl T.b_range (pa_cons (hs:=st_Call) (pe_methV0 (pv 0) V_places (hr.mono (by decide)) pass_cx) pa_nil)) (fun ca=>⟨(pg_name (i:=0) (show List.Nodup (["each","place"]:List Str) from by decide +kernel) rfl (Or.inl rfl)),(pts_one (pt_cmpR op_ne (pv 0) (pv 1) (nomark _))),(pv 0)⟩))
   (pss_cons (ps_set (i:=5) sc_without.nd rfl (Or.inl rfl) (pe_lst pa_nil))
   (pss_cons (ps_for own_cx rfl (pi_enum rfl T.b_enumerate (pa_cons (hs:=st_Name) (pv 4) pa_nil)) (pg_tup rfl (pgs_cons (pg_name (i:=6) sc_without.nd rfl (Or.inl rfl)) (pgs_cons (pg_name (i:=7) sc_without.nd rfl (Or.inl rfl)) pgs_nil))) (pss_one (ps_for own_cx rfl (pi_enum rfl T.b_enumerate (pa_cons (hs:=st_Name) (pv 4) pa_nil)) (pg_tup rfl (pgs_cons (pg_name (i:=8) sc_without.nd rfl (Or.inl rfl)) (pgs_cons (pg_name (i:=9) sc_without.nd rfl (Or.inl rfl)) pgs_nil))) (pss_one (ps_if (pt_cmpR (op_ne.or (op_neT hr.units0)) (pe_ix ix_list (pe_ix ix_list (pv 3) (pv 7) (fun _ _=>rfl)) (pv 9) (fun _ _=>rfl)) (pe_methV0 (pv 2) V_none (hr.mono (by decide)) pass_cx) (nomark _)) (pss_one (ps_expr (pe_bm PySem.F.plainAttrs_list PySem.F.slot_list_append PySem.F.type_list_append mt_append (pv 5) (pa_cons (hs:=st_Tuple) (pe_tup (pa_cons (hs:=st_Name) (pv 6) (pa_cons (hs:=st_Name) (pv 8) (pa_cons (hs:=st_Subscript) (pe_ix ix_list (pe_ix ix_list (pv 3) (pv 7) (fun _ _=>rfl)) (pv 9) (fun _ _=>rfl)) pa_nil)))) pa_nil)))) pss_nil)))))
   (pss_one (ps_ret (pe_makeD M_Net (hr.mono (by decide)) rfl pass_cx (pa_cons (hs:=st_Name) (pv 2) (pa_cons (hs:=st_Call) (pe_callB call_len_seq rfl T.b_len bt_len (pa_cons (hs:=st_Name) (pv 4) pa_nil)) (pa_cons (hs:=st_Name) (pv 5) pa_nil))))))))))))),?_⟩
  obtain ⟨dx,hx⟩:=N.ins
  obtain ⟨kdx,hk⟩:=N.kind
  refine ⟨_,rfl,(),np,dx,_,rfl,hx,rfl,np,kp,tp,kd,n,xs,_,rfl,N,rfl,_,rfl,iteEqI (fun c=>⟨by show 1≤sizeLine; decide,e1 (by omega)⟩) (fun c=>?_)⟩
  have n1:n≠1:=fun z=>c (by omega)
  unfold tNext
  dsimp only [gName]
  refine ⟨_,rfl,_,rfl,np,p,kd,n,kp,tp,xs,_,rfl,N,hp,fun hin=>?_,fun z=>e2 n1 z⟩
  obtain ⟨ok,es,rfl,hK,G,h64,hs,e4⟩:=e3 n1 hin
  obtain ⟨p,rfl⟩:∃ j:Nat,p=j:=⟨p.toNat,by omega⟩
  rw [Int.toNat_natCast] at hs
  refine ⟨_,rfl,(),np,dx,_,rfl,hx,rfl,np,kp,tp,kd,n,xs,_,rfl,N,?_⟩
  refine ⟨_,rfl,_,rfl,np,kp,tp,kd,ok,n,xs,es,rfl,N,hK,G,h64,fun rl0 rs0 H1 s1 M1=>?_⟩
  exact ⟨_,rfl,kp,rl0,kd,ok,n,p,rs0,_,rfl,⟨kdx,s1 _ _ hk⟩,hK,G.nb,by omega,M1,(fun r hr=>by rw [hs] at hr; cases hr),(fun _ H' s'=>e4 H' (s1.trans s')),(fun r hr=>by rw [hs] at hr; cases hr)⟩
end
end K15
namespace K15
open PySem L2 Ws
seal PE PT PW PA PC PS PSs PG PGs PI PO PJ PTs
section
variable {P : Program} {w : World} {K : W.Frag} {mg : Str → Option Value} {base : Heap} {a : Adr}
def refC (a:Adr):Nat→Addr
 | 0=>a.cNoNet
 | 1=>a.cNoWorth
 | 2=>a.cNoPlace
 | 3=>a.cNoRoad
 | 4=>a.cNoSteps
 | 5=>a.cNoPick
 | 6=>a.cNoSum
 | _=>a.cNoWay
theorem refK (T:Tx K mg a):∀ {k j:Nat},k < 8→j < 8→W.kitOne K (.ref (refC a k)) (.ref (refC a j))=some (decide (k=j))
 | 0,0,_,_=>kit_self
 | 0,1,_,_=>T.kt_NoNet_NoWorth
 | 0,2,_,_=>T.kt_NoNet_NoPlace
 | 0,3,_,_=>T.kt_NoNet_NoRoad
 | 0,4,_,_=>T.kt_NoNet_NoSteps
 | 0,5,_,_=>T.kt_NoNet_NoPick
 | 0,6,_,_=>T.kt_NoNet_NoSum
 | 0,7,_,_=>T.kt_NoNet_NoWay
 | 1,0,_,_=>T.kt_NoWorth_NoNet
 | 1,1,_,_=>kit_self
 | 1,2,_,_=>T.kt_NoWorth_NoPlace
 | 1,3,_,_=>T.kt_NoWorth_NoRoad
 | 1,4,_,_=>T.kt_NoWorth_NoSteps
 | 1,5,_,_=>T.kt_NoWorth_NoPick
 | 1,6,_,_=>T.kt_NoWorth_NoSum
 | 1,7,_,_=>T.kt_NoWorth_NoWay
 | 2,0,_,_=>T.kt_NoPlace_NoNet
 | 2,1,_,_=>T.kt_NoPlace_NoWorth
 | 2,2,_,_=>kit_self
 | 2,3,_,_=>T.kt_NoPlace_NoRoad
 | 2,4,_,_=>T.kt_NoPlace_NoSteps
 | 2,5,_,_=>T.kt_NoPlace_NoPick
 | 2,6,_,_=>T.kt_NoPlace_NoSum
 | 2,7,_,_=>T.kt_NoPlace_NoWay
 | 3,0,_,_=>T.kt_NoRoad_NoNet
 | 3,1,_,_=>T.kt_NoRoad_NoWorth
 | 3,2,_,_=>T.kt_NoRoad_NoPlace
 | 3,3,_,_=>kit_self
 | 3,4,_,_=>T.kt_NoRoad_NoSteps
 | 3,5,_,_=>T.kt_NoRoad_NoPick
 | 3,6,_,_=>T.kt_NoRoad_NoSum
 | 3,7,_,_=>T.kt_NoRoad_NoWay
 | 4,0,_,_=>T.kt_NoSteps_NoNet
 | 4,1,_,_=>T.kt_NoSteps_NoWorth
 | 4,2,_,_=>T.kt_NoSteps_NoPlace
 | 4,3,_,_=>T.kt_NoSteps_NoRoad
 | 4,4,_,_=>kit_self
 | 4,5,_,_=>T.kt_NoSteps_NoPick
 | 4,6,_,_=>T.kt_NoSteps_NoSum
 | 4,7,_,_=>T.kt_NoSteps_NoWay
 | 5,0,_,_=>T.kt_NoPick_NoNet
 | 5,1,_,_=>T.kt_NoPick_NoWorth
 | 5,2,_,_=>T.kt_NoPick_NoPlace
 | 5,3,_,_=>T.kt_NoPick_NoRoad
 | 5,4,_,_=>T.kt_NoPick_NoSteps
 | 5,5,_,_=>kit_self
 | 5,6,_,_=>T.kt_NoPick_NoSum
 | 5,7,_,_=>T.kt_NoPick_NoWay
 | 6,0,_,_=>T.kt_NoSum_NoNet
 | 6,1,_,_=>T.kt_NoSum_NoWorth
 | 6,2,_,_=>T.kt_NoSum_NoPlace
 | 6,3,_,_=>T.kt_NoSum_NoRoad
 | 6,4,_,_=>T.kt_NoSum_NoSteps
 | 6,5,_,_=>T.kt_NoSum_NoPick
 | 6,6,_,_=>kit_self
 | 6,7,_,_=>T.kt_NoSum_NoWay
 | 7,0,_,_=>T.kt_NoWay_NoNet
 | 7,1,_,_=>T.kt_NoWay_NoWorth
 | 7,2,_,_=>T.kt_NoWay_NoPlace
 | 7,3,_,_=>T.kt_NoWay_NoRoad
 | 7,4,_,_=>T.kt_NoWay_NoSteps
 | 7,5,_,_=>T.kt_NoWay_NoPick
 | 7,6,_,_=>T.kt_NoWay_NoSum
 | 7,7,_,_=>kit_self
 | k + 8,_,h,_=>absurd h (by omega)
 | _,j + 8,_,h=>absurd h (by omega)
theorem refV (T:Tx K mg a):∀ {k:Nat},k < 8→W.kitOne K (.ref (refC a k)) (.type "ValueError")=some true
 | 0,_=>T.kt_NoNet_ValueError
 | 1,_=>T.kt_NoWorth_ValueError
 | 2,_=>T.kt_NoPlace_ValueError
 | 3,_=>T.kt_NoRoad_ValueError
 | 4,_=>T.kt_NoSteps_ValueError
 | 5,_=>T.kt_NoPick_ValueError
 | 6,_=>T.kt_NoSum_ValueError
 | 7,_=>T.kt_NoWay_ValueError
 | k + 8,h=>absurd h (by omega)
theorem refX (T:Tx K mg a):∀ {k:Nat},k < 8→ExK K (refC a k)
 | 0,_=>T.exk_NoNet
 | 1,_=>T.exk_NoWorth
 | 2,_=>T.exk_NoPlace
 | 3,_=>T.exk_NoRoad
 | 4,_=>T.exk_NoSteps
 | 5,_=>T.exk_NoPick
 | 6,_=>T.exk_NoSum
 | 7,_=>T.exk_NoWay
 | k + 8,h=>absurd h (by omega)
theorem refM (T:Tx K mg a):∀ {k:Nat},k < 8→W.exmOne K (.ref (refC a k)) (.ref a.cSumError)=some true
 | 0,_=>T.exm_NoNet_SumError
 | 1,_=>T.exm_NoWorth_SumError
 | 2,_=>T.exm_NoPlace_SumError
 | 3,_=>T.exm_NoRoad_SumError
 | 4,_=>T.exm_NoSteps_SumError
 | 5,_=>T.exm_NoPick_SumError
 | 6,_=>T.exm_NoSum_SumError
 | 7,_=>T.exm_NoWay_SumError
 | k + 8,h=>absurd h (by omega)
def whichL (k:Nat):List V:=[.bl (decide (k=0)),.bl (decide (k=1)),.bl (decide (k=2)),.bl (decide (k=3)),.bl (decide (k=4)),.bl (decide (k=5)),.bl (decide (k=6)),.bl (decide (k=7)),.bl true]
def spWhich (a:Adr):Sp:=fun vs H Q _=>∃ (x:Addr) (k:Nat),vs=[.ref x]∧k < 8∧H x=some (.ext (ExcAt x (.ref (refC a k))))∧∀ l H',Same H H'→H' l=some (.lst (whichL k))→Q (.ref l) H'
theorem sc_law_which:FnScope ["e","first"] ["e"] (defScope (top 60)):=⟨rfl,rfl,rfl,by decide +kernel,rfl,by decide +kernel,by decide +kernel⟩
theorem d_law_which (T:Tx K mg a) (F:DefAt K mg "_law_which" (top 60)):Dh P w K mg base 1 "_law_which" ["e"] (spWhich a):=by
 obtain ⟨f,fd,hm,F⟩:=F.ex
 refine ⟨f,fd,hm,F.kp,F.binds fun _ _ _ _ _ _ us hl=>match us,hl with | [_],_=>rfl,?_⟩
 refine F.okH sc_law_which (fun vs H Q E h=>?_) (fun cdv A outer s H vs Q E hr h=>?_)
 ·obtain ⟨_,_,rfl,_⟩:=h
  rfl
 ·obtain ⟨x,k,rfl,k8,hx,q⟩:=h
  refine ⟨_,(pss_cons (ps_set (i:=1) sc_law_which.nd rfl (Or.inl rfl) (pe_lst (pa_cons (hs:=st_Call) (pe_callB call_isinst rfl T.b_isinstance bt_isinstance (pa_cons (hs:=st_Name) (pv 0) (pa_cons (hs:=st_Name) (pe_glob (v:=V.ref a.cNoNet) rfl T.g_NoNet rfl) pa_nil))) (pa_cons (hs:=st_Call) (pe_callB call_isinst rfl T.b_isinstance bt_isinstance (pa_cons (hs:=st_Name) (pv 0) (pa_cons (hs:=st_Name) (pe_glob (v:=V.ref a.cNoWorth) rfl T.g_NoWorth rfl) pa_nil))) (pa_cons (hs:=st_Call) (pe_callB call_isinst rfl T.b_isinstance bt_isinstance (pa_cons (hs:=st_Name) (pv 0) (pa_cons (hs:=st_Name) (pe_glob (v:=V.ref a.cNoPlace) rfl T.g_NoPlace rfl) pa_nil))) (pa_cons (hs:=st_Call) (pe_callB call_isinst rfl T.b_isinstance bt_isinstance (pa_cons (hs:=st_Name) (pv 0) (pa_cons (hs:=st_Name) (pe_glob (v:=V.ref a.cNoRoad) rfl T.g_NoRoad rfl) pa_nil))) pa_nil))))))
   (pss_cons (ps_set (i:=1) sc_law_which.nd rfl (Or.inl rfl) (pe_op op_cat (pv 1) (pe_lst (pa_cons (hs:=st_Call) (pe_callB call_isinst rfl T.b_isinstance bt_isinstance (pa_cons (hs:=st_Name) (pv 0) (pa_cons (hs:=st_Name) (pe_glob (v:=V.ref a.cNoSteps) rfl T.g_NoSteps rfl) pa_nil))) (pa_cons (hs:=st_Call) (pe_callB call_isinst rfl T.b_isinstance bt_isinstance (pa_cons (hs:=st_Name) (pv 0) (pa_cons (hs:=st_Name) (pe_glob (v:=V.ref a.cNoPick) rfl T.g_NoPick rfl) pa_nil))) (pa_cons (hs:=st_Call) (pe_callB call_isinst rfl T.b_isinstance bt_isinstance (pa_cons (hs:=st_Name) (pv 0) (pa_cons (hs:=st_Name) (pe_glob (v:=V.ref a.cNoSum) rfl T.g_NoSum rfl) pa_nil))) (pa_cons (hs:=st_Call) (pe_callB call_isinst rfl T.b_isinstance bt_isinstance (pa_cons (hs:=st_Name) (pv 0) (pa_cons (hs:=st_Name) (pe_glob (v:=V.ref a.cNoWay) rfl T.g_NoWay rfl) pa_nil))) pa_nil)))))))
   (pss_one (ps_ret (pe_op op_cat (pv 1) (pe_lst (pa_cons (hs:=st_Call) (pe_callB call_isinst rfl T.b_isinstance bt_isinstance (pa_cons (hs:=st_Name) (pv 0) (pa_cons (hs:=st_Name) (pe_bltn (v:=V.ty "ValueError") rfl T.b_ValueError bt_ValueError rfl) pa_nil))) pa_nil))))))),?_⟩
  have X:=refX T k8
  refine ⟨_,rfl,_,_,_,_,_,rfl,rfl,.exc (hx) X,refK (j:=0) T k8 (by decide),_,rfl,_,_,_,_,_,rfl,rfl,.exc (hx) X,refK (j:=1) T k8 (by decide),_,rfl,_,_,_,_,_,rfl,rfl,.exc (hx) X,refK (j:=2) T k8 (by decide),_,rfl,_,_,_,_,_,rfl,rfl,.exc (hx) X,refK (j:=3) T k8 (by decide),(by show 4≤sizeLine; decide),fun l1 n1=>?_⟩
  have u1:=same_one (o:=.lst [.bl (decide (k=0)),.bl (decide (k=1)),.bl (decide (k=2)),.bl (decide (k=3))]) n1
  have z1:=upd_same (H:=H) (a:=l1) (o:=.lst [.bl (decide (k=0)),.bl (decide (k=1)),.bl (decide (k=2)),.bl (decide (k=3))])
  generalize upd H l1 (.lst [.bl (decide (k=0)),.bl (decide (k=1)),.bl (decide (k=2)),.bl (decide (k=3))])=H1 at u1 z1 ⊢
  have hx1:=u1 _ _ hx
  refine ⟨_,rfl,_,rfl,_,_,_,_,_,rfl,rfl,.exc (hx1) X,refK (j:=4) T k8 (by decide),_,rfl,_,_,_,_,_,rfl,rfl,.exc (hx1) X,refK (j:=5) T k8 (by decide),_,rfl,_,_,_,_,_,rfl,rfl,.exc (hx1) X,refK (j:=6) T k8 (by decide),_,rfl,_,_,_,_,_,rfl,rfl,.exc (hx1) X,refK (j:=7) T k8 (by decide),(by show 4≤sizeLine; decide),fun l2 n2=>?_⟩
  have u2:=same_one (o:=.lst [.bl (decide (k=4)),.bl (decide (k=5)),.bl (decide (k=6)),.bl (decide (k=7))]) n2
  have z2:=upd_same (H:=H1) (a:=l2) (o:=.lst [.bl (decide (k=4)),.bl (decide (k=5)),.bl (decide (k=6)),.bl (decide (k=7))])
  generalize upd H1 l2 (.lst [.bl (decide (k=4)),.bl (decide (k=5)),.bl (decide (k=6)),.bl (decide (k=7))])=H2 at u2 z2 ⊢
  have s2:=u1.trans u2
  refine ⟨l1,l2,_,_,rfl,rfl,u2 _ _ z1,z2,(by show 8≤sizeLine; decide),fun l3 n3=>?_⟩
  have u3:Same H2 (upd H2 l3 (.lst ([.bl (decide (k=0)),.bl (decide (k=1)),.bl (decide (k=2)),.bl (decide (k=3))] ++ [.bl (decide (k=4)),.bl (decide (k=5)),.bl (decide (k=6)),.bl (decide (k=7))]))):=same_one n3
  have z3:(upd H2 l3 (.lst ([.bl (decide (k=0)),.bl (decide (k=1)),.bl (decide (k=2)),.bl (decide (k=3))] ++ [.bl (decide (k=4)),.bl (decide (k=5)),.bl (decide (k=6)),.bl (decide (k=7))]))) l3=some (.lst ([.bl (decide (k=0)),.bl (decide (k=1)),.bl (decide (k=2)),.bl (decide (k=3))] ++ [.bl (decide (k=4)),.bl (decide (k=5)),.bl (decide (k=6)),.bl (decide (k=7))])):=upd_same
  generalize upd H2 l3 (.lst ([.bl (decide (k=0)),.bl (decide (k=1)),.bl (decide (k=2)),.bl (decide (k=3))] ++ [.bl (decide (k=4)),.bl (decide (k=5)),.bl (decide (k=6)),.bl (decide (k=7))]))=H3 at u3 z3 ⊢
  have s3:=s2.trans u3
  refine ⟨_,rfl,_,rfl,_,_,_,_,_,rfl,rfl,.exc (s3 _ _ hx) X,refV T k8,(by show 1≤sizeLine; decide),fun l4 n4=>?_⟩
  have u4:=same_one (o:=.lst [V.bl true]) n4
  refine ⟨l3,l4,_,_,rfl,rfl,u4 _ _ z3,upd_same,(by show 9≤sizeLine; decide),fun l5 n5=>?_⟩
  exact q l5 _ (s3.trans (u4.trans (same_one n5))) upd_same
end
end K15
namespace K15
open PySem L2 Ws
seal PE PT PW PA PC PS PSs PG PGs PI PO PJ PTs
section
variable {P : Program} {w : World} {K : W.Frag} {mg : Str → Option Value} {base : Heap} {a : Adr}
def spRef2 (c:Addr):Sp:=fun vs H Q E=>∃ (cell far:Int),vs=[.int cell,.int far]∧0≤far∧far < 10 ^ 59∧∀ H',Same H H'→E (.ref c) none H'
theorem pick2 {x y:V} {c:Int}:∃ z,atI [x,y] (c % 2)=some z∧(z=x∨z=y):=by
 have a:=Int.emod_nonneg c (show (2:Int)≠0 by decide)
 have b:=Int.emod_lt_of_pos c (show (0:Int) < 2 by decide)
 generalize c % 2=i at a b
 obtain rfl | rfl:i=0∨i=1:=by omega
 ·exact ⟨x,rfl,.inl rfl⟩
 ·exact ⟨y,rfl,.inr rfl⟩
theorem sc_law_no_net:FnScope ["cell","far","way"] ["cell","far"] (defScope (top 61)):=⟨rfl,rfl,rfl,by decide +kernel,rfl,by decide +kernel,by decide +kernel⟩
theorem d_law_no_net (hP:P.given.tree=none) (T:Tx K mg a) (M_Net:Mkr P w K mg base 38 "Net" a.cNet ["self","kind","places","roads"] (spNet a)) (D_without:Dn P w K mg base 40 "without" ["net","place"] (spWoX a)) (F:DefAt K mg "_law_no_net" (top 61)):Dn P w K mg base 41 "_law_no_net" ["cell","far"] (spRef2 a.cNoNet):=by
 obtain ⟨f,fd,hm,F⟩:=F.ex
 refine ⟨f,fd,hm,F.kp,F.binds fun _ _ _ _ _ _ us hl=>match us,hl with | [_,_],_=>rfl,?_⟩
 refine F.okX sc_law_no_net (fun vs H Q E h=>?_) (fun cdv A outer s H vs Q E hr h=>?_)
 ·obtain ⟨_,_,rfl,_⟩:=h
  rfl
 ·obtain ⟨cell,far,rfl,f0,f1,e⟩:=h
  refine ⟨_,(pss_cons (ps_set (i:=2) sc_law_no_net.nd rfl (Or.inl rfl) (pe_op op_mod (pv 0) pe_int))
   (pss_one (ps_if (pt_cmpR op_eq (pv 2) pe_int (nomark _)) (pss_one (ps_expr (pe_makeD M_Net (hr.mono (by decide)) rfl pass_cx (pa_cons (hs:=st_Call) (pe_makeN T.n_Fewest rfl) (pa_cons (hs:=st_Subscript) (pe_ix ix_list (pe_lst (pa_cons (hs:=st_Constant) pe_int (pa_cons (hs:=st_BinOp) (pe_op op_add pe_int (pv 1)) pa_nil))) (pe_op op_mod (pe_op op_fdivX (pv 0) pe_int) pe_int) (fun _ _=>rfl)) (pa_cons (hs:=st_List) (pe_lst (pa_cons (hs:=st_Tuple) (pe_tup (pa_cons (hs:=st_Constant) pe_int (pa_cons (hs:=st_Constant) pe_int (pa_cons (hs:=st_UnaryOp) (pe_un un_neg pe_int) pa_nil)))) pa_nil)) pa_nil)))))) (pss_one (ps_if (pt_cmpR op_eq (pv 2) pe_int (nomark _)) (pss_one (ps_expr (pe_makeD M_Net (hr.mono (by decide)) rfl pass_cx (pa_cons (hs:=st_Call) (pe_makeN T.n_Widest rfl) (pa_cons (hs:=st_Constant) pe_int (pa_cons (hs:=st_List) (pe_lst (pa_cons (hs:=st_Tuple) (pe_tup (pa_cons (hs:=st_Constant) pe_int (pa_cons (hs:=st_Constant) pe_int (pa_cons (hs:=st_UnaryOp) (pe_un un_neg pe_int) pa_nil)))) (pa_cons (hs:=st_Tuple) (pe_tup (pa_cons (hs:=st_Constant) pe_int (pa_cons (hs:=st_BinOp) (pe_op op_add pe_int (pv 1)) (pa_cons (hs:=st_Constant) pe_int pa_nil)))) pa_nil))) pa_nil)))))) (pss_one (ps_if (pt_cmpR op_eq (pv 2) pe_int (nomark _)) (pss_one (ps_expr (pe_makeD M_Net (hr.mono (by decide)) rfl pass_cx (pa_cons (hs:=st_Call) (pe_makeN T.n_Chances rfl) (pa_cons (hs:=st_Constant) pe_int (pa_cons (hs:=st_List) (pe_lst (pa_cons (hs:=st_Tuple) (pe_tup (pa_cons (hs:=st_Constant) pe_int (pa_cons (hs:=st_Constant) pe_int (pa_cons (hs:=st_Tuple) (pe_tup (pa_cons (hs:=st_Constant) pe_int (pa_cons (hs:=st_Constant) pe_int pa_nil))) pa_nil)))) (pa_cons (hs:=st_Tuple) (pe_tup (pa_cons (hs:=st_Constant) pe_int (pa_cons (hs:=st_Constant) pe_int (pa_cons (hs:=st_UnaryOp) (pe_un un_neg pe_int) pa_nil)))) (pa_cons (hs:=st_Tuple) (pe_tup (pa_cons (hs:=st_Constant) pe_int (pa_cons (hs:=st_Constant) pe_int (pa_cons (hs:=st_Tuple) (pe_tup (pa_cons (hs:=st_Constant) pe_int (pa_cons (hs:=st_Constant) pe_int pa_nil))) pa_nil)))) pa_nil)))) pa_nil)))))) (pss_one (ps_expr (pe_callD D_without (hr.mono (by decide)) rfl pass_cx (pa_cons (hs:=st_Call) (pe_makeD M_Net (hr.mono (by decide)) rfl pass_cx (pa_cons (hs:=st_Call) (pe_makeN T.n_Counted rfl) (pa_cons (hs:=st_Constant) pe_int (pa_cons (hs:=st_List) (pe_lst (pa_cons (hs:=st_Tuple) (pe_tup (pa_cons (hs:=st_Constant) pe_int (pa_cons (hs:=st_Constant) pe_int (pa_cons (hs:=st_Constant) pe_int pa_nil)))) pa_nil)) pa_nil)))) (pa_cons (hs:=st_Subscript) (pe_ix ix_list (pe_lst (pa_cons (hs:=st_Constant) pe_int (pa_cons (hs:=st_BinOp) (pe_op op_add pe_int (pv 1)) pa_nil))) (pe_op op_mod (pe_op op_fdivX (pv 0) pe_int) pe_int) (fun _ _=>rfl)) pa_nil)))))))))))),?_⟩
  refine ⟨_,rfl,_,_,rfl,rfl,(by show (0:Int) < 4; decide),?_⟩
  refine ⟨_,rfl,rfl,_,rfl,iteEqI (fun c=>?_) (fun c=>?_)⟩
  ·have s0:=Same.refl H
   refine fun kp kdx nkp nkdx nek=>?_
   have uk:Same H (upd (upd H kdx (.own kp)) kp (.ins a.cFewest kdx [])):=same_two nkp nkdx
   have k:KindAt a (upd (upd H kdx (.own kp)) kp (.ins a.cFewest kdx [])) kp .fewest:=⟨kdx,upd_same⟩
   generalize upd (upd H kdx (.own kp)) kp (.ins a.cFewest kdx [])=H1 at uk k ⊢
   have s0:=s0.trans uk
   refine ⟨_,rfl,_,_,rfl,rfl,(by show 2≤sizeLine; decide),fun l0 nl0=>?_⟩
   have ul0:=same_one (o:=.lst [V.int 0,.int (9 + far)]) nl0
   have z0:(upd H1 l0 (.lst [V.int 0,.int (9 + far)])) l0=some (.lst [V.int 0,.int (9 + far)]):=upd_same
   generalize upd H1 l0 (.lst [V.int 0,.int (9 + far)])=H2 at ul0 z0 ⊢
   have k:=k.same ul0
   have s0:=s0.trans ul0
   obtain ⟨z,ez,hz⟩:=pick2 (x:=V.int 0) (y:=V.int (9 + far)) (c:=cell / 4)
   refine ⟨_,rfl,_,_,rfl,rfl,⟨by decide,by decide⟩,_,_,rfl,rfl,(by show (0:Int) < 2; decide),l0,_,_,_,rfl,rfl,SqL.of z0,ez,?_⟩
   obtain ⟨n,rfl,hn⟩:∃ n:Int,z=.int n∧(n=0∨n=9 + far):=by
    rcases hz with rfl | rfl
    ·exact ⟨_,rfl,.inl rfl⟩
    ·exact ⟨_,rfl,.inr rfl⟩
   refine ⟨_,rfl,(by show 3≤sizeLine; decide),fun t1 nt1=>?_⟩
   have u1:=same_one (o:=.tup [V.int (0),.int (0),.int (-1)]) nt1
   have r1:IsRoad (upd H2 t1 (.tup [V.int (0),.int (0),.int (-1)])) (.ref t1) ⟨0,0,.int (-1)⟩:=⟨t1,.int (-1),rfl,upd_same,rfl⟩
   generalize upd H2 t1 (.tup [V.int (0),.int (0),.int (-1)])=H3 at u1 r1 ⊢
   have k:=k.same u1
   have s0:=s0.trans u1
   refine ⟨(by show 1≤sizeLine; decide),fun l nl=>?_⟩
   have ul:=same_one (o:=.lst [V.ref t1]) nl
   have z:(upd H3 l (.lst [V.ref t1])) l=some (.lst [V.ref t1]):=upd_same
   generalize upd H3 l (.lst [V.ref t1])=H4 at ul z ⊢
   have k:=k.same ul
   have r1:=r1.same ul
   have s0:=s0.trans ul
   have R:IsRoads H4 [V.ref t1] [⟨0,0,.int (-1)⟩]:=.cons r1 .nil
   exact mk_any k trivial trivial z R (log2_small (by omega)) (fun c _=>nomatch c) (fun y=>by rw [no_nums (by omega)] at y; cases y) (fun _ H1 s1=>e H1 (s0.trans s1)) (fun y=>by rw [no_nums (by omega)] at y; cases y)
  refine ⟨_,rfl,rfl,_,rfl,iteEqI (fun c=>?_) (fun c=>?_)⟩
  ·have s0:=Same.refl H
   refine fun kp kdx nkp nkdx nek=>?_
   have uk:Same H (upd (upd H kdx (.own kp)) kp (.ins a.cWidest kdx [])):=same_two nkp nkdx
   have k:KindAt a (upd (upd H kdx (.own kp)) kp (.ins a.cWidest kdx [])) kp .widest:=⟨kdx,upd_same⟩
   generalize upd (upd H kdx (.own kp)) kp (.ins a.cWidest kdx [])=H1 at uk k ⊢
   have s0:=s0.trans uk
   refine ⟨_,rfl,(by show 3≤sizeLine; decide),fun t1 nt1=>?_⟩
   have u1:=same_one (o:=.tup [V.int (0),.int (1),.int (-1)]) nt1
   have r1:IsRoad (upd H1 t1 (.tup [V.int (0),.int (1),.int (-1)])) (.ref t1) ⟨0,1,.int (-1)⟩:=⟨t1,.int (-1),rfl,upd_same,rfl⟩
   generalize upd H1 t1 (.tup [V.int (0),.int (1),.int (-1)])=H2 at u1 r1 ⊢
   have k:=k.same u1
   have s0:=s0.trans u1
   refine ⟨_,rfl,_,_,rfl,rfl,(by show 3≤sizeLine; decide),fun t2 nt2=>?_⟩
   have u2:=same_one (o:=.tup [V.int (0),.int (2 + far),.int (5)]) nt2
   have r2:IsRoad (upd H2 t2 (.tup [V.int (0),.int (2 + far),.int (5)])) (.ref t2) ⟨0,2 + far,.int (5)⟩:=⟨t2,.int (5),rfl,upd_same,rfl⟩
   generalize upd H2 t2 (.tup [V.int (0),.int (2 + far),.int (5)])=H3 at u2 r2 ⊢
   have k:=k.same u2
   have r1:=r1.same u2
   have s0:=s0.trans u2
   refine ⟨(by show 2≤sizeLine; decide),fun l nl=>?_⟩
   have ul:=same_one (o:=.lst [V.ref t1,.ref t2]) nl
   have z:(upd H3 l (.lst [V.ref t1,.ref t2])) l=some (.lst [V.ref t1,.ref t2]):=upd_same
   generalize upd H3 l (.lst [V.ref t1,.ref t2])=H4 at ul z ⊢
   have k:=k.same ul
   have r1:=r1.same ul
   have r2:=r2.same ul
   have s0:=s0.trans ul
   have R:IsRoads H4 [V.ref t1,.ref t2] [⟨0,1,.int (-1)⟩,⟨0,2 + far,.int (5)⟩]:=.cons r1 (.cons r2 .nil)
   have ny:netYes .widest 2 [⟨0,1,.int (-1)⟩,⟨0,2 + far,.int (5)⟩]=false:=no_end (r:=⟨0,2 + far,.int 5⟩) (by simp) (fun y=>by have:=y.2.2.2; dsimp only at this; omega)
   exact mk_any k trivial trivial z R (log2_small (by decide)) (fun c _=>nomatch c) (fun y=>by rw [ny] at y; cases y) (fun _ H1 s1=>e H1 (s0.trans s1)) (fun y=>by rw [ny] at y; cases y)
  refine ⟨_,rfl,rfl,_,rfl,iteEqI (fun c=>?_) (fun c=>?_)⟩
  ·have s0:=Same.refl H
   refine fun kp kdx nkp nkdx nek=>?_
   have uk:Same H (upd (upd H kdx (.own kp)) kp (.ins a.cChances kdx [])):=same_two nkp nkdx
   have k:KindAt a (upd (upd H kdx (.own kp)) kp (.ins a.cChances kdx [])) kp .chances:=⟨kdx,upd_same⟩
   generalize upd (upd H kdx (.own kp)) kp (.ins a.cChances kdx [])=H1 at uk k ⊢
   have s0:=s0.trans uk
   refine ⟨(by show 2≤sizeLine; decide),fun p1 np1=>?_⟩
   have v1:=same_one (o:=.tup [V.int 1,.int 2]) np1
   have w1:IsW (upd H1 p1 (.tup [V.int 1,.int 2])) (.ref p1) (.pair 1 2):=upd_same
   generalize upd H1 p1 (.tup [V.int 1,.int 2])=H2 at v1 w1 ⊢
   have k:=k.same v1
   have s0:=s0.trans v1
   refine ⟨(by show 3≤sizeLine; decide),fun t1 nt1=>?_⟩
   have u1:=same_one (o:=.tup [V.int (0),.int (1),.ref p1]) nt1
   have r1:IsRoad (upd H2 t1 (.tup [V.int (0),.int (1),.ref p1])) (.ref t1) ⟨0,1,.pair 1 2⟩:=⟨t1,.ref p1,rfl,upd_same,w1.same u1⟩
   generalize upd H2 t1 (.tup [V.int (0),.int (1),.ref p1])=H3 at u1 r1 ⊢
   have k:=k.same u1
   have s0:=s0.trans u1
   refine ⟨_,rfl,(by show 3≤sizeLine; decide),fun t2 nt2=>?_⟩
   have u2:=same_one (o:=.tup [V.int (1),.int (0),.int (-1)]) nt2
   have r2:IsRoad (upd H3 t2 (.tup [V.int (1),.int (0),.int (-1)])) (.ref t2) ⟨1,0,.int (-1)⟩:=⟨t2,.int (-1),rfl,upd_same,rfl⟩
   generalize upd H3 t2 (.tup [V.int (1),.int (0),.int (-1)])=H4 at u2 r2 ⊢
   have k:=k.same u2
   have r1:=r1.same u2
   have s0:=s0.trans u2
   refine ⟨(by show 2≤sizeLine; decide),fun p3 np3=>?_⟩
   have v3:=same_one (o:=.tup [V.int 2,.int 3]) np3
   have w3:IsW (upd H4 p3 (.tup [V.int 2,.int 3])) (.ref p3) (.pair 2 3):=upd_same
   generalize upd H4 p3 (.tup [V.int 2,.int 3])=H5 at v3 w3 ⊢
   have k:=k.same v3
   have r1:=r1.same v3
   have r2:=r2.same v3
   have s0:=s0.trans v3
   refine ⟨(by show 3≤sizeLine; decide),fun t3 nt3=>?_⟩
   have u3:=same_one (o:=.tup [V.int (0),.int (0),.ref p3]) nt3
   have r3:IsRoad (upd H5 t3 (.tup [V.int (0),.int (0),.ref p3])) (.ref t3) ⟨0,0,.pair 2 3⟩:=⟨t3,.ref p3,rfl,upd_same,w3.same u3⟩
   generalize upd H5 t3 (.tup [V.int (0),.int (0),.ref p3])=H6 at u3 r3 ⊢
   have k:=k.same u3
   have r1:=r1.same u3
   have r2:=r2.same u3
   have s0:=s0.trans u3
   refine ⟨(by show 3≤sizeLine; decide),fun l nl=>?_⟩
   have ul:=same_one (o:=.lst [V.ref t1,.ref t2,.ref t3]) nl
   have z:(upd H6 l (.lst [V.ref t1,.ref t2,.ref t3])) l=some (.lst [V.ref t1,.ref t2,.ref t3]):=upd_same
   generalize upd H6 l (.lst [V.ref t1,.ref t2,.ref t3])=H7 at ul z ⊢
   have k:=k.same ul
   have r1:=r1.same ul
   have r2:=r2.same ul
   have r3:=r3.same ul
   have s0:=s0.trans ul
   have R:IsRoads H7 [V.ref t1,.ref t2,.ref t3] [⟨0,1,.pair 1 2⟩,⟨1,0,.int (-1)⟩,⟨0,0,.pair 2 3⟩]:=.cons r1 (.cons r2 (.cons r3 .nil))
   have ny:netYes .chances 2 [⟨0,1,.pair 1 2⟩,⟨1,0,.int (-1)⟩,⟨0,0,.pair 2 3⟩]=false:=by decide +kernel
   have sm:∀ r∈([⟨0,1,.pair 1 2⟩,⟨1,0,.int (-1)⟩,⟨0,0,.pair 2 3⟩]:List Road),Sm 4000 r.w:=by decide +kernel
   exact mk_any k trivial trivial z R (log2_small (by decide)) (fun _ _=>sm) (fun y=>by rw [ny] at y; cases y) (fun _ H1 s1=>e H1 (s0.trans s1)) (fun y=>by rw [ny] at y; cases y)
  ·have s0:=Same.refl H
   refine fun kp kdx nkp nkdx nek=>?_
   have uk:Same H (upd (upd H kdx (.own kp)) kp (.ins a.cCounted kdx [])):=same_two nkp nkdx
   have k:KindAt a (upd (upd H kdx (.own kp)) kp (.ins a.cCounted kdx [])) kp .counted:=⟨kdx,upd_same⟩
   generalize upd (upd H kdx (.own kp)) kp (.ins a.cCounted kdx [])=H1 at uk k ⊢
   have s0:=s0.trans uk
   refine ⟨(by show 3≤sizeLine; decide),fun t1 nt1=>?_⟩
   have u1:=same_one (o:=.tup [V.int (0),.int (0),.int (1)]) nt1
   have r1:IsRoad (upd H1 t1 (.tup [V.int (0),.int (0),.int (1)])) (.ref t1) ⟨0,0,.int (1)⟩:=⟨t1,.int (1),rfl,upd_same,rfl⟩
   generalize upd H1 t1 (.tup [V.int (0),.int (0),.int (1)])=H2 at u1 r1 ⊢
   have k:=k.same u1
   have s0:=s0.trans u1
   refine ⟨(by show 1≤sizeLine; decide),fun l nl=>?_⟩
   have ul:=same_one (o:=.lst [V.ref t1]) nl
   have z:(upd H2 l (.lst [V.ref t1])) l=some (.lst [V.ref t1]):=upd_same
   generalize upd H2 l (.lst [V.ref t1])=H3 at ul z ⊢
   have k:=k.same ul
   have r1:=r1.same ul
   have s0:=s0.trans ul
   have R:IsRoads H3 [V.ref t1] [⟨0,0,.int (1)⟩]:=.cons r1 .nil
   have yy:netYes .counted 1 [⟨0,0,.int (1)⟩]=true:=by decide +kernel
   have yw:worthsOk .counted [⟨0,0,.int (1)⟩]=true:=by decide +kernel
   refine mk_any k trivial trivial z R (log2_small (by decide)) (fun c _=>nomatch c) (fun _ _ np tp H1 s1 _ N=>?_) (fun y=>by rw [yy] at y; cases y) (fun _ y=>by rw [yw] at y; cases y)
   have s0:=s0.trans s1
   have N:NetIs a H1 np .counted 1 kp tp _ _:=N
   refine ⟨_,rfl,_,_,rfl,rfl,(by show 2≤sizeLine; decide),fun l0 nl0=>?_⟩
   have ul0:=same_one (o:=.lst [V.int 0,.int (1 + far)]) nl0
   have s0:=s0.trans ul0
   obtain ⟨z,ez,hz⟩:=pick2 (x:=V.int 0) (y:=V.int (1 + far)) (c:=cell / 4)
   refine ⟨_,rfl,_,_,rfl,rfl,⟨by decide,by decide⟩,_,_,rfl,rfl,(by show (0:Int) < 2; decide),l0,_,_,_,rfl,rfl,SqL.of upd_same,ez,?_⟩
   obtain ⟨n,rfl,hn⟩:∃ n:Int,z=.int n∧(n=0∨n=1 + far):=by
    rcases hz with rfl | rfl
    ·exact ⟨_,rfl,.inl rfl⟩
    ·exact ⟨_,rfl,.inr rfl⟩
   exact ⟨np,kp,tp,.counted,1,n,_,_,rfl,N.same ul0,by omega,fun _=>e _ s0,(fun y=>absurd rfl y),(fun y=>absurd rfl y)⟩
end
end K15
namespace K15
open PySem L2 Ws
seal PE PT PW PA PC PS PSs PG PGs PI PO PJ PTs
section
variable {P : Program} {w : World} {K : W.Frag} {mg : Str → Option Value} {base : Heap} {a : Adr}
theorem sc_law_no_worth:FnScope ["cell","far","way"] ["cell","far"] (defScope (top 62)):=⟨rfl,rfl,rfl,by decide +kernel,rfl,by decide +kernel,by decide +kernel⟩
theorem d_law_no_worth (hP:P.given.tree=none) (T:Tx K mg a) (M_Net:Mkr P w K mg base 38 "Net" a.cNet ["self","kind","places","roads"] (spNet a)) (M_Rests:Mkr P w K mg base 1 "Rests" a.cRests ["self","m"] (spInit a)) (F:DefAt K mg "_law_no_worth" (top 62)):Dn P w K mg base 41 "_law_no_worth" ["cell","far"] (spRef2 a.cNoWorth):=by
 obtain ⟨f,fd,hm,F⟩:=F.ex
 refine ⟨f,fd,hm,F.kp,F.binds fun _ _ _ _ _ _ us hl=>match us,hl with | [_,_],_=>rfl,?_⟩
 refine F.okX sc_law_no_worth (fun vs H Q E h=>?_) (fun cdv A outer s H vs Q E hr h=>?_)
 ·obtain ⟨_,_,rfl,_⟩:=h
  rfl
 ·obtain ⟨cell,far,rfl,f0,f1,e⟩:=h
  refine ⟨_,(pss_cons (ps_set (i:=2) sc_law_no_worth.nd rfl (Or.inl rfl) (pe_op op_mod (pv 0) pe_int))
   (pss_one (ps_if (pt_cmpR op_eq (pv 2) pe_int (nomark _)) (pss_one (ps_expr (pe_makeD M_Rests (hr.mono (by decide)) rfl pass_cx (pa_cons (hs:=st_Subscript) (pe_ix ix_list (pe_lst (pa_cons (hs:=st_Constant) pe_int (pa_cons (hs:=st_BinOp) (pe_op op_add pe_int (pv 1)) pa_nil))) (pe_op op_mod (pe_op op_fdivX (pv 0) pe_int) pe_int) (fun _ _=>rfl)) pa_nil)))) (pss_one (ps_if (pt_cmpR op_eq (pv 2) pe_int (nomark _)) (pss_one (ps_expr (pe_makeD M_Net (hr.mono (by decide)) rfl pass_cx (pa_cons (hs:=st_Call) (pe_makeD M_Rests (hr.mono (by decide)) rfl pass_cx (pa_cons (hs:=st_Constant) pe_int pa_nil)) (pa_cons (hs:=st_Constant) pe_int (pa_cons (hs:=st_List) (pe_lst (pa_cons (hs:=st_Tuple) (pe_tup (pa_cons (hs:=st_Constant) pe_int (pa_cons (hs:=st_Constant) pe_int (pa_cons (hs:=st_Constant) pe_int pa_nil)))) (pa_cons (hs:=st_Tuple) (pe_tup (pa_cons (hs:=st_Constant) pe_int (pa_cons (hs:=st_Constant) pe_int (pa_cons (hs:=st_Constant) pe_int pa_nil)))) pa_nil))) pa_nil)))))) (pss_one (ps_if (pt_cmpR op_eq (pv 2) pe_int (nomark _)) (pss_one (ps_expr (pe_makeD M_Net (hr.mono (by decide)) rfl pass_cx (pa_cons (hs:=st_Call) (pe_makeN T.n_Likeliest rfl) (pa_cons (hs:=st_Constant) pe_int (pa_cons (hs:=st_List) (pe_lst (pa_cons (hs:=st_Tuple) (pe_tup (pa_cons (hs:=st_Constant) pe_int (pa_cons (hs:=st_Constant) pe_int (pa_cons (hs:=st_Tuple) (pe_tup (pa_cons (hs:=st_Constant) pe_int (pa_cons (hs:=st_Constant) pe_int pa_nil))) pa_nil)))) (pa_cons (hs:=st_Tuple) (pe_tup (pa_cons (hs:=st_Constant) pe_int (pa_cons (hs:=st_Constant) pe_int (pa_cons (hs:=st_Tuple) (pe_tup (pa_cons (hs:=st_Constant) pe_int (pa_cons (hs:=st_Constant) pe_int pa_nil))) pa_nil)))) pa_nil))) pa_nil)))))) (pss_one (ps_expr (pe_makeD M_Net (hr.mono (by decide)) rfl pass_cx (pa_cons (hs:=st_Call) (pe_makeN T.n_Musts rfl) (pa_cons (hs:=st_Constant) pe_int (pa_cons (hs:=st_List) (pe_lst (pa_cons (hs:=st_Tuple) (pe_tup (pa_cons (hs:=st_Constant) pe_int (pa_cons (hs:=st_Constant) pe_int (pa_cons (hs:=st_Constant) pe_int pa_nil)))) (pa_cons (hs:=st_Tuple) (pe_tup (pa_cons (hs:=st_Constant) pe_int (pa_cons (hs:=st_Constant) pe_int (pa_cons (hs:=st_BinOp) (pe_op op_sub (pe_un un_neg pe_int) (pv 1)) pa_nil)))) pa_nil))) pa_nil))))))))))))),?_⟩
  refine ⟨_,rfl,_,_,rfl,rfl,(by show (0:Int) < 4; decide),?_⟩
  refine ⟨_,rfl,rfl,_,rfl,iteEqI (fun c=>?_) (fun c=>?_)⟩
  ·have s0:=Same.refl H
   refine ⟨_,rfl,_,_,rfl,rfl,(by show 2≤sizeLine; decide),fun l0 nl0=>?_⟩
   have ul0:=same_one (o:=.lst [V.int 0,.int (13 + far)]) nl0
   have z0:(upd H l0 (.lst [V.int 0,.int (13 + far)])) l0=some (.lst [V.int 0,.int (13 + far)]):=upd_same
   generalize upd H l0 (.lst [V.int 0,.int (13 + far)])=H1 at ul0 z0 ⊢
   have s0:=s0.trans ul0
   obtain ⟨z,ez,hz⟩:=pick2 (x:=V.int 0) (y:=V.int (13 + far)) (c:=cell / 4)
   refine ⟨_,rfl,_,_,rfl,rfl,⟨by decide,by decide⟩,_,_,rfl,rfl,(by show (0:Int) < 2; decide),l0,_,_,_,rfl,rfl,SqL.of z0,ez,?_⟩
   obtain ⟨n,rfl,hn⟩:∃ n:Int,z=.int n∧(n=0∨n=13 + far):=by
    rcases hz with rfl | rfl
    ·exact ⟨_,rfl,.inl rfl⟩
    ·exact ⟨_,rfl,.inr rfl⟩
   exact fun x dx nx ndx nex=>⟨x,dx,n,rfl,upd_same,log2_small (by omega),(fun y=>absurd y (by omega)),fun _=>e _ (s0.trans (same_two nx ndx))⟩
  refine ⟨_,rfl,rfl,_,rfl,iteEqI (fun c=>?_) (fun c=>?_)⟩
  ·have s0:=Same.refl H
   refine fun kp kdx nkp nkdx nek=>⟨kp,kdx,3,rfl,upd_same,log2_small (by decide),fun _=>⟨rfl,?_⟩,fun n=>absurd (by decide) n⟩
   have uk:Same H (upd (upd (upd H kdx (.own kp)) kp (.ins a.cRests kdx [])) kp (.ins a.cRests kdx [("m",.int 3)])):=fun b' o' e'=>by rw [upd_ne (ne_of_none e' nkp)]; exact same_two nkp nkdx b' o' e'
   have k:KindAt a (upd (upd (upd H kdx (.own kp)) kp (.ins a.cRests kdx [])) kp (.ins a.cRests kdx [("m",.int 3)])) kp (.rests 3):=⟨kdx,upd_same⟩
   generalize upd (upd (upd H kdx (.own kp)) kp (.ins a.cRests kdx [])) kp (.ins a.cRests kdx [("m",.int 3)])=H1 at uk k ⊢
   have s0:=s0.trans uk
   refine ⟨(by show 3≤sizeLine; decide),fun t1 nt1=>?_⟩
   have u1:=same_one (o:=.tup [V.int (0),.int (0),.int (1)]) nt1
   have r1:IsRoad (upd H1 t1 (.tup [V.int (0),.int (0),.int (1)])) (.ref t1) ⟨0,0,.int (1)⟩:=⟨t1,.int (1),rfl,upd_same,rfl⟩
   generalize upd H1 t1 (.tup [V.int (0),.int (0),.int (1)])=H2 at u1 r1 ⊢
   have k:=k.same u1
   have s0:=s0.trans u1
   refine ⟨(by show 3≤sizeLine; decide),fun t2 nt2=>?_⟩
   have u2:=same_one (o:=.tup [V.int (0),.int (0),.int (8)]) nt2
   have r2:IsRoad (upd H2 t2 (.tup [V.int (0),.int (0),.int (8)])) (.ref t2) ⟨0,0,.int (8)⟩:=⟨t2,.int (8),rfl,upd_same,rfl⟩
   generalize upd H2 t2 (.tup [V.int (0),.int (0),.int (8)])=H3 at u2 r2 ⊢
   have k:=k.same u2
   have r1:=r1.same u2
   have s0:=s0.trans u2
   refine ⟨(by show 2≤sizeLine; decide),fun l nl=>?_⟩
   have ul:=same_one (o:=.lst [V.ref t1,.ref t2]) nl
   have z:(upd H3 l (.lst [V.ref t1,.ref t2])) l=some (.lst [V.ref t1,.ref t2]):=upd_same
   generalize upd H3 l (.lst [V.ref t1,.ref t2])=H4 at ul z ⊢
   have k:=k.same ul
   have r1:=r1.same ul
   have r2:=r2.same ul
   have s0:=s0.trans ul
   have R:IsRoads H4 [V.ref t1,.ref t2] [⟨0,0,.int (1)⟩,⟨0,0,.int (8)⟩]:=.cons r1 (.cons r2 .nil)
   have yy:netYes (.rests 3) 1 [⟨0,0,.int (1)⟩,⟨0,0,.int (8)⟩]=true:=by decide +kernel
   have yw:worthsOk (.rests 3) [⟨0,0,.int (1)⟩,⟨0,0,.int (8)⟩]=false:=by decide +kernel
   exact mk_any k trivial ⟨by decide,by decide⟩ z R (log2_small (by decide)) (fun c _=>nomatch c) (fun _ y=>by rw [yw] at y; cases y) (fun y=>by rw [yy] at y; cases y) (fun _ _ H1 s1=>e H1 (s0.trans s1))
  refine ⟨_,rfl,rfl,_,rfl,iteEqI (fun c=>?_) (fun c=>?_)⟩
  ·have s0:=Same.refl H
   refine fun kp kdx nkp nkdx nek=>?_
   have uk:Same H (upd (upd H kdx (.own kp)) kp (.ins a.cLikeliest kdx [])):=same_two nkp nkdx
   have k:KindAt a (upd (upd H kdx (.own kp)) kp (.ins a.cLikeliest kdx [])) kp .likeliest:=⟨kdx,upd_same⟩
   generalize upd (upd H kdx (.own kp)) kp (.ins a.cLikeliest kdx [])=H1 at uk k ⊢
   have s0:=s0.trans uk
   refine ⟨(by show 2≤sizeLine; decide),fun p1 np1=>?_⟩
   have v1:=same_one (o:=.tup [V.int 3,.int 2]) np1
   have w1:IsW (upd H1 p1 (.tup [V.int 3,.int 2])) (.ref p1) (.pair 3 2):=upd_same
   generalize upd H1 p1 (.tup [V.int 3,.int 2])=H2 at v1 w1 ⊢
   have k:=k.same v1
   have s0:=s0.trans v1
   refine ⟨(by show 3≤sizeLine; decide),fun t1 nt1=>?_⟩
   have u1:=same_one (o:=.tup [V.int (0),.int (0),.ref p1]) nt1
   have r1:IsRoad (upd H2 t1 (.tup [V.int (0),.int (0),.ref p1])) (.ref t1) ⟨0,0,.pair 3 2⟩:=⟨t1,.ref p1,rfl,upd_same,w1.same u1⟩
   generalize upd H2 t1 (.tup [V.int (0),.int (0),.ref p1])=H3 at u1 r1 ⊢
   have k:=k.same u1
   have s0:=s0.trans u1
   refine ⟨(by show 2≤sizeLine; decide),fun p2 np2=>?_⟩
   have v2:=same_one (o:=.tup [V.int 1,.int 1]) np2
   have w2:IsW (upd H3 p2 (.tup [V.int 1,.int 1])) (.ref p2) (.pair 1 1):=upd_same
   generalize upd H3 p2 (.tup [V.int 1,.int 1])=H4 at v2 w2 ⊢
   have k:=k.same v2
   have r1:=r1.same v2
   have s0:=s0.trans v2
   refine ⟨(by show 3≤sizeLine; decide),fun t2 nt2=>?_⟩
   have u2:=same_one (o:=.tup [V.int (0),.int (0),.ref p2]) nt2
   have r2:IsRoad (upd H4 t2 (.tup [V.int (0),.int (0),.ref p2])) (.ref t2) ⟨0,0,.pair 1 1⟩:=⟨t2,.ref p2,rfl,upd_same,w2.same u2⟩
   generalize upd H4 t2 (.tup [V.int (0),.int (0),.ref p2])=H5 at u2 r2 ⊢
   have k:=k.same u2
   have r1:=r1.same u2
   have s0:=s0.trans u2
   refine ⟨(by show 2≤sizeLine; decide),fun l nl=>?_⟩
   have ul:=same_one (o:=.lst [V.ref t1,.ref t2]) nl
   have z:(upd H5 l (.lst [V.ref t1,.ref t2])) l=some (.lst [V.ref t1,.ref t2]):=upd_same
   generalize upd H5 l (.lst [V.ref t1,.ref t2])=H6 at ul z ⊢
   have k:=k.same ul
   have r1:=r1.same ul
   have r2:=r2.same ul
   have s0:=s0.trans ul
   have R:IsRoads H6 [V.ref t1,.ref t2] [⟨0,0,.pair 3 2⟩,⟨0,0,.pair 1 1⟩]:=.cons r1 (.cons r2 .nil)
   have yy:netYes .likeliest 1 [⟨0,0,.pair 3 2⟩,⟨0,0,.pair 1 1⟩]=true:=by decide +kernel
   have yw:worthsOk .likeliest [⟨0,0,.pair 3 2⟩,⟨0,0,.pair 1 1⟩]=false:=by decide +kernel
   exact mk_any k trivial trivial z R (log2_small (by decide)) (fun c _=>nomatch c) (fun _ y=>by rw [yw] at y; cases y) (fun y=>by rw [yy] at y; cases y) (fun _ _ H1 s1=>e H1 (s0.trans s1))
  ·have s0:=Same.refl H
   refine fun kp kdx nkp nkdx nek=>?_
   have uk:Same H (upd (upd H kdx (.own kp)) kp (.ins a.cMusts kdx [])):=same_two nkp nkdx
   have k:KindAt a (upd (upd H kdx (.own kp)) kp (.ins a.cMusts kdx [])) kp .musts:=⟨kdx,upd_same⟩
   generalize upd (upd H kdx (.own kp)) kp (.ins a.cMusts kdx [])=H1 at uk k ⊢
   have s0:=s0.trans uk
   refine ⟨(by show 3≤sizeLine; decide),fun t1 nt1=>?_⟩
   have u1:=same_one (o:=.tup [V.int (0),.int (1),.int (3)]) nt1
   have r1:IsRoad (upd H1 t1 (.tup [V.int (0),.int (1),.int (3)])) (.ref t1) ⟨0,1,.int (3)⟩:=⟨t1,.int (3),rfl,upd_same,rfl⟩
   generalize upd H1 t1 (.tup [V.int (0),.int (1),.int (3)])=H2 at u1 r1 ⊢
   have k:=k.same u1
   have s0:=s0.trans u1
   refine ⟨_,rfl,_,rfl,_,_,rfl,rfl,(by show 3≤sizeLine; decide),fun t2 nt2=>?_⟩
   have u2:=same_one (o:=.tup [V.int (1),.int (1),.int (-1 - far)]) nt2
   have r2:IsRoad (upd H2 t2 (.tup [V.int (1),.int (1),.int (-1 - far)])) (.ref t2) ⟨1,1,.int (-1 - far)⟩:=⟨t2,.int (-1 - far),rfl,upd_same,rfl⟩
   generalize upd H2 t2 (.tup [V.int (1),.int (1),.int (-1 - far)])=H3 at u2 r2 ⊢
   have k:=k.same u2
   have r1:=r1.same u2
   have s0:=s0.trans u2
   refine ⟨(by show 2≤sizeLine; decide),fun l nl=>?_⟩
   have ul:=same_one (o:=.lst [V.ref t1,.ref t2]) nl
   have z:(upd H3 l (.lst [V.ref t1,.ref t2])) l=some (.lst [V.ref t1,.ref t2]):=upd_same
   generalize upd H3 l (.lst [V.ref t1,.ref t2])=H4 at ul z ⊢
   have k:=k.same ul
   have r1:=r1.same ul
   have r2:=r2.same ul
   have s0:=s0.trans ul
   have R:IsRoads H4 [V.ref t1,.ref t2] [⟨0,1,.int (3)⟩,⟨1,1,.int (-1 - far)⟩]:=.cons r1 (.cons r2 .nil)
   have yy:netYes .musts 2 [⟨0,1,.int (3)⟩,⟨1,1,.int (-1 - far)⟩]=true:=rfl
   have yw:worthsOk .musts [⟨0,1,.int (3)⟩,⟨1,1,.int (-1 - far)⟩]=false:=by
    refine Bool.eq_false_iff.mpr fun y=>?_
    have y:=List.all_eq_true.mp y ⟨1,1,.int (-1 - far)⟩ (by simp)
    simp [isWorth,isFrom] at y
    omega
   exact mk_any k trivial trivial z R (log2_small (by decide)) (fun c _=>nomatch c) (fun _ y=>by rw [yw] at y; cases y) (fun y=>by rw [yy] at y; cases y) (fun _ _ H1 s1=>e H1 (s0.trans s1))
end
end K15
namespace K15
open PySem L2 Ws
section
def chaOf (q:Rat) (h:decide (0≤q)=true):Car .chances:=(⟨q,of_decide_eq_true h⟩:Cha)
def esP:List (Edge (Car .fewest)):=[⟨0,1,(some 5:Option Nat)⟩,⟨1,0,(some 2:Option Nat)⟩,⟨2,2,(some 0:Option Nat)⟩]
def esS:List (Edge (Car .chances)):=[⟨0,1,chaOf 1 (by decide +kernel)⟩,⟨1,0,chaOf (1/2) (by decide +kernel)⟩,⟨1,1,chaOf (1/2) (by decide +kernel)⟩,⟨2,0,chaOf (1/9) (by decide +kernel)⟩]
def esT:List (Edge (Car .chances)):=[⟨0,0,chaOf (1/3) (by decide +kernel)⟩,⟨0,0,chaOf (2/3) (by decide +kernel)⟩,⟨1,0,chaOf 1 (by decide +kernel)⟩]
def esW:List (Edge (Car .widest)):=[⟨0,1,(⟨0,by decide⟩:Wid)⟩]
theorem roadsS:esS.map (Edge.road .chances)=[⟨0,1,.pair 1 1⟩,⟨1,0,.pair 1 2⟩,⟨1,1,.pair 1 2⟩,⟨2,0,.pair 1 9⟩]:=by decide +kernel
theorem roadsT:esT.map (Edge.road .chances)=[⟨0,0,.pair 1 3⟩,⟨0,0,.pair 2 3⟩,⟨1,0,.pair 1 1⟩]:=by decide +kernel
theorem stageS:stageA (ks .chances trivial) (edgeM (ks .chances trivial) esS) 3=none:=Option.isNone_iff_eq_none.mp (by decide +kernel)
theorem starT:(ks .chances trivial).star (edgeM (ks .chances trivial) esT 0 0)=none:=Option.isNone_iff_eq_none.mp (by decide +kernel)
theorem bestP:best (ks .fewest trivial) esP 0 3 2=(ks .fewest trivial).zero:=by
 show best ksFewest esP 0 3 2=(none:Option Nat)
 decide +kernel
theorem bestW:best (ks .widest trivial) esW 0 2 1=(ks .widest trivial).zero:=by
 show best ksWidest esW 0 2 1=(⟨0,_⟩:Wid)
 decide +kernel
theorem sub_of {n:Nat} {es:List (Edge (Car .chances))} (he:∀ e∈es,e.f < n∧e.t < n) (h:∀ p:Nat,p < n→shSum (frm (p:Int) (es.map (Edge.road .chances)))≤1) (p:Int):shSum (frm p (es.map (Edge.road .chances)))≤1:=by
 by_cases c:0≤p∧p < n
 ·obtain ⟨q,rfl⟩:∃ q:Nat,p=q:=⟨p.toNat,by omega⟩
  exact h q (by omega)
 ·have:frm p (es.map (Edge.road .chances))=[]:=by
   unfold frm
   rw [List.filter_eq_nil_iff.mpr,List.map_nil]
   intro r hr
   obtain ⟨e,he',rfl⟩:=List.mem_map.mp hr
   have:=(he e he').1
   show ¬ decide (((e.f:Nat):Int)=p)=true
   rw [decide_eq_true_eq]; omega
  rw [this]
  decide +kernel
theorem graphP:Graph .fewest 3 esP:=⟨by decide,by decide +kernel,by decide +kernel,(fun h=>nomatch h),(fun h=>nomatch h)⟩
theorem graphW:Graph .widest 2 esW:=⟨by decide,by decide +kernel,by decide +kernel,(fun h=>nomatch h),(fun h=>nomatch h)⟩
theorem den_of {es:List (Edge (Car .chances))} {L:Nat} (h:∀ e∈es,((toR (enc .chances e.c) * (L:Rat)).den=1∧0≤(toR (enc .chances e.c) * (L:Rat)).num)):∀ e∈es,∃ k:Nat,toR (enc .chances e.c) * (L:Rat)=(k:Rat):=fun e he=>by
 obtain ⟨h1,h2⟩:=h e he
 generalize toR (enc .chances e.c) * (L:Rat)=q at h1 h2
 obtain ⟨m,hm⟩:∃ m:Nat,q.num=m:=⟨q.num.toNat,by omega⟩
 exact ⟨m,Rat.ext (hm.trans rfl) (h1.trans rfl)⟩
theorem graphS:Graph .chances 3 esS:=by
 have e:∀ e∈esS,e.f < 3∧e.t < 3:=by decide +kernel
 exact ⟨by decide,e,by decide +kernel,fun _=>⟨18,by decide,by decide,den_of (by decide +kernel)⟩,fun _=>sub_of e (by decide +kernel)⟩
theorem graphT:Graph .chances 2 esT:=by
 have e:∀ e∈esT,e.f < 2∧e.t < 2:=by decide +kernel
 exact ⟨by decide,e,by decide +kernel,fun _=>⟨3,by decide,by decide,den_of (by decide +kernel)⟩,fun _=>sub_of e (by decide +kernel)⟩
theorem graphN (kd:Kd) (h:kd≠.chances):Graph kd 2 []:=⟨by decide,(fun _ h=>nomatch h),(fun _ h=>nomatch h),(fun z=>absurd z h),(fun z=>absurd z h)⟩
end
end K15
namespace K15
open PySem L2 Ws
seal PE PT PW PA PC PS PSs PG PGs PI PO PJ PTs
section
variable {P : Program} {w : World} {K : W.Frag} {mg : Str → Option Value} {base : Heap} {a : Adr}
theorem pickV3 {x y z:V} {c:Int}:∃ u,atI [x,y,z] (c % 3)=some u∧(u=x∨u=y∨u=z):=by
 have a:=Int.emod_nonneg c (show (3:Int)≠0 by decide)
 have b:=Int.emod_lt_of_pos c (show (0:Int) < 3 by decide)
 generalize c % 3=i at a b
 obtain rfl | rfl | rfl:i=0∨i=1∨i=2:=by omega
 ·exact ⟨x,rfl,.inl rfl⟩
 ·exact ⟨y,rfl,.inr (.inl rfl)⟩
 ·exact ⟨z,rfl,.inr (.inr rfl)⟩
def spNoPl (a:Adr):Sp:=fun vs H Q E=>∃ (np kp tp:Addr) (kd:Kd) (ok:KdOk kd) (xs:List V) (es:List (Edge (Car kd))) (cell far:Int),vs=[.ref np,.int cell,.int far]∧NetIs a H np kd 3 kp tp xs (es.map (Edge.road kd))∧HasK kd∧Graph kd 3 es∧es.length≤64∧0≤far∧far < 10 ^ 59∧∀ H',Same H H'→E (.ref a.cNoPlace) none H'
theorem sc_law_no_place:FnScope ["net","cell","far","place","way"] ["net","cell","far"] (defScope (top 63)):=⟨rfl,rfl,rfl,by decide +kernel,rfl,by decide +kernel,by decide +kernel⟩
theorem d_law_no_place (hP:P.given.tree=none) (T:Tx K mg a) (D_worth_of:Dn P w K mg base 36 "worth_of" ["net","place","row"] (spWalk a)) (D_by_steps:Dn P w K mg base 38 "by_steps" ["net","place","other","steps"] (spBySt a)) (D_total:Dn P w K mg base 39 "total" ["net","place","other"] (spTotX a)) (D_without:Dn P w K mg base 40 "without" ["net","place"] (spWoX a)) (D_way_for:Dn P w K mg base 39 "way_for" ["net","place","other"] (spWF a))
  (F:DefAt K mg "_law_no_place" (top 63)):Dn P w K mg base 41 "_law_no_place" ["net","cell","far"] (spNoPl a):=by
 obtain ⟨f,fd,hm,F⟩:=F.ex
 refine ⟨f,fd,hm,F.kp,F.binds fun _ _ _ _ _ _ us hl=>match us,hl with | [_,_,_],_=>rfl,?_⟩
 refine F.okX sc_law_no_place (fun vs H Q E h=>?_) (fun cdv A outer s H vs Q E hr h=>?_)
 ·obtain ⟨_,_,_,_,_,_,_,_,_,rfl,_⟩:=h
  rfl
 ·obtain ⟨np,kp,tp,kd,ok,xs,es,cell,far,rfl,N,hK,G,h64,f0,f1,e⟩:=h
  refine ⟨_,(pss_cons (ps_set (i:=3) sc_law_no_place.nd rfl (Or.inl rfl) (pe_ix ix_list (pe_lst (pa_cons (hs:=st_BinOp) (pe_op op_sub (pe_un un_neg pe_int) (pv 2)) (pa_cons (hs:=st_Constant) pe_int (pa_cons (hs:=st_BinOp) (pe_op op_add pe_int (pv 2)) pa_nil)))) (pe_op op_mod (pv 1) pe_int) (fun _ _=>rfl)))
   (pss_cons (ps_set (i:=4) sc_law_no_place.nd rfl (Or.inl rfl) (pe_op op_mod (pe_op op_fdivX (pv 1) pe_int) pe_int))
   (pss_one (ps_if (pt_cmpR op_eq (pv 4) pe_int (nomark _)) (pss_one (ps_expr (pe_callD D_worth_of (hr.mono (by decide)) rfl pass_cx (pa_cons (hs:=st_Name) (pv 0) (pa_cons (hs:=st_Name) (pv 3) (pa_cons (hs:=st_List) (pe_lst (pa_cons (hs:=st_Constant) pe_int pa_nil)) pa_nil)))))) (pss_one (ps_if (pt_cmpR op_eq (pv 4) pe_int (nomark _)) (pss_one (ps_expr (pe_callD D_by_steps (hr.mono (by decide)) rfl pass_cx (pa_cons (hs:=st_Name) (pv 0) (pa_cons (hs:=st_Name) (pv 3) (pa_cons (hs:=st_Constant) pe_int (pa_cons (hs:=st_Constant) pe_int pa_nil))))))) (pss_one (ps_if (pt_cmpR op_eq (pv 4) pe_int (nomark _)) (pss_one (ps_expr (pe_callD D_by_steps (hr.mono (by decide)) rfl pass_cx (pa_cons (hs:=st_Name) (pv 0) (pa_cons (hs:=st_Constant) pe_int (pa_cons (hs:=st_Name) (pv 3) (pa_cons (hs:=st_UnaryOp) (pe_un un_neg pe_int) pa_nil))))))) (pss_one (ps_if (pt_cmpR op_eq (pv 4) pe_int (nomark _)) (pss_one (ps_expr (pe_callD D_total (hr.mono (by decide)) rfl pass_cx (pa_cons (hs:=st_Name) (pv 0) (pa_cons (hs:=st_Name) (pv 3) (pa_cons (hs:=st_Constant) pe_int pa_nil)))))) (pss_one (ps_if (pt_cmpR op_eq (pv 4) pe_int (nomark _)) (pss_one (ps_expr (pe_callD D_total (hr.mono (by decide)) rfl pass_cx (pa_cons (hs:=st_Name) (pv 0) (pa_cons (hs:=st_Constant) pe_int (pa_cons (hs:=st_Name) (pv 3) pa_nil)))))) (pss_one (ps_if (pt_cmpR op_eq (pv 4) pe_int (nomark _)) (pss_one (ps_expr (pe_callD D_without (hr.mono (by decide)) rfl pass_cx (pa_cons (hs:=st_Name) (pv 0) (pa_cons (hs:=st_Name) (pv 3) pa_nil))))) (pss_one (ps_if (pt_cmpR op_eq (pv 4) pe_int (nomark _)) (pss_one (ps_expr (pe_callD D_way_for (hr.mono (by decide)) rfl pass_cx (pa_cons (hs:=st_Name) (pv 0) (pa_cons (hs:=st_Name) (pv 3) (pa_cons (hs:=st_Constant) pe_int pa_nil)))))) (pss_one (ps_expr (pe_callD D_way_for (hr.mono (by decide)) rfl pass_cx (pa_cons (hs:=st_Name) (pv 0) (pa_cons (hs:=st_Constant) pe_int (pa_cons (hs:=st_Name) (pv 3) pa_nil)))))))))))))))))))))),?_⟩
  refine ⟨_,rfl,_,rfl,_,_,rfl,rfl,_,rfl,_,_,rfl,rfl,(by show 3≤sizeLine; decide),fun l0 nl0=>?_⟩
  have u0:=same_one (o:=.lst [V.int (-1 - far),.int 3,.int (3 + far)]) nl0
  have z0:=upd_same (H:=H) (a:=l0) (o:=.lst [V.int (-1 - far),.int 3,.int (3 + far)])
  generalize upd H l0 (.lst [V.int (-1 - far),.int 3,.int (3 + far)])=H1 at u0 z0 ⊢
  obtain ⟨z,ez,hz⟩:=pickV3 (x:=V.int (-1 - far)) (y:=.int 3) (z:=V.int (3 + far)) (c:=cell)
  refine ⟨_,rfl,_,_,rfl,rfl,(by show (0:Int) < 3; decide),l0,_,_,_,rfl,rfl,SqL.of z0,ez,?_⟩
  obtain ⟨p,rfl,hp⟩:∃ p:Int,z=.int p∧(p=-1 - far∨p=3∨p=3 + far):=by
   rcases hz with rfl | rfl | rfl
   ·exact ⟨_,rfl,.inl rfl⟩
   ·exact ⟨_,rfl,.inr (.inl rfl)⟩
   ·exact ⟨_,rfl,.inr (.inr rfl)⟩
  have pb:p.natAbs < 10 ^ 62:=by omega
  have pn:¬ (0≤p∧p < ((3:Nat):Int)):=by omega
  have N:=N.same u0
  have e:∀ H',Same H1 H'→E (.ref a.cNoPlace) none H':=fun H' s'=>e H' (u0.trans s')
  have e0:=e _ (Same.refl H1)
  clear hp hz ez
  dsimp only [gName]
  refine ⟨_,rfl,_,_,rfl,rfl,⟨by decide,by decide⟩,_,_,rfl,rfl,(by show (0:Int) < 8; decide),?_⟩
  dsimp only [gName]
  refine ⟨_,rfl,rfl,_,rfl,iteEqI (fun c=>?_) (fun c=>?_)⟩
  ·refine ⟨_,rfl,_,rfl,(by show 1≤sizeLine; decide),fun l1 nl1=>?_⟩
   have u1:=same_one (o:=.lst [V.int 99]) nl1
   exact ⟨np,p,kd,ok,3,kp,tp,xs,es,l1,[99],rfl,N.same u1,hK,G,upd_same,by decide,pb,by decide,(fun _ H' s'=>e H' (u1.trans s')),(fun y=>absurd y pn),(fun y=>absurd y pn)⟩
  refine ⟨_,rfl,rfl,_,rfl,iteEqI (fun c=>?_) (fun c=>?_)⟩
  ·exact ⟨_,rfl,_,rfl,np,kp,tp,kd,3,p,0,41,xs,_,rfl,N,pb,by decide,by decide,fun _=>e0,fun y=>absurd y.1 pn⟩
  refine ⟨_,rfl,rfl,_,rfl,iteEqI (fun c=>?_) (fun c=>?_)⟩
  ·exact ⟨_,rfl,_,rfl,_,rfl,np,kp,tp,kd,3,0,p,-1,xs,_,rfl,N,by decide,pb,by decide,fun _=>e0,fun y=>absurd y.2 pn⟩
  refine ⟨_,rfl,rfl,_,rfl,iteEqI (fun c=>?_) (fun c=>?_)⟩
  ·exact ⟨_,rfl,_,rfl,np,kp,tp,kd,3,p,0,xs,_,rfl,N,pb,by decide,fun _=>e0,fun y=>absurd y.1 pn⟩
  refine ⟨_,rfl,rfl,_,rfl,iteEqI (fun c=>?_) (fun c=>?_)⟩
  ·exact ⟨_,rfl,_,rfl,np,kp,tp,kd,3,0,p,xs,_,rfl,N,by decide,pb,fun _=>e0,fun y=>absurd y.2 pn⟩
  refine ⟨_,rfl,rfl,_,rfl,iteEqI (fun c=>?_) (fun c=>?_)⟩
  ·exact ⟨_,rfl,_,rfl,np,kp,tp,kd,3,p,xs,_,rfl,N,pb,(fun y=>absurd y (by decide)),fun _ _=>e0,fun _ y=>absurd y pn⟩
  refine ⟨_,rfl,rfl,_,rfl,iteEqI (fun c=>?_) (fun c=>?_)⟩
  ·exact ⟨_,rfl,_,rfl,np,kp,tp,kd,ok,3,p,0,xs,es,rfl,N,hK,G,h64,pb,by decide,fun _=>e0,(fun y=>absurd y.1 pn),(fun y=>absurd y.1 pn),(fun y=>absurd y.1 pn)⟩
  ·exact ⟨_,rfl,_,rfl,np,kp,tp,kd,ok,3,0,p,xs,es,rfl,N,hK,G,h64,by decide,pb,fun _=>e0,(fun y=>absurd y.2 pn),(fun y=>absurd y.2 pn),(fun y=>absurd y.2 pn)⟩
def spNoSm (a:Adr):Sp:=fun vs H Q E=>∃ (np kp tp:Addr) (xs:List V) (cell:Int),vs=[.ref np,.int cell]∧NetIs a H np .chances 3 kp tp xs (esS.map (Edge.road .chances))∧∀ H',Same H H'→E (.ref a.cNoSum) none H'
theorem sc_law_no_sum:FnScope ["net","cell","way"] ["net","cell"] (defScope (top 64)):=⟨rfl,rfl,rfl,by decide +kernel,rfl,by decide +kernel,by decide +kernel⟩
theorem d_law_no_sum (hP:P.given.tree=none) (T:Tx K mg a) (M_Net:Mkr P w K mg base 38 "Net" a.cNet ["self","kind","places","roads"] (spNet a)) (D_table:Dn P w K mg base 38 "table" ["net"] (spTable a)) (D_total:Dn P w K mg base 39 "total" ["net","place","other"] (spTotX a)) (D_without:Dn P w K mg base 40 "without" ["net","place"] (spWoX a))
  (F:DefAt K mg "_law_no_sum" (top 64)):Dn P w K mg base 41 "_law_no_sum" ["net","cell"] (spNoSm a):=by
 obtain ⟨f,fd,hm,F⟩:=F.ex
 refine ⟨f,fd,hm,F.kp,F.binds fun _ _ _ _ _ _ us hl=>match us,hl with | [_,_],_=>rfl,?_⟩
 refine F.okX sc_law_no_sum (fun vs H Q E h=>?_) (fun cdv A outer s H vs Q E hr h=>?_)
 ·obtain ⟨_,_,_,_,_,rfl,_⟩:=h
  rfl
 ·obtain ⟨np,kp,tp,xs,cell,rfl,N,e⟩:=h
  refine ⟨_,(pss_cons (ps_set (i:=2) sc_law_no_sum.nd rfl (Or.inl rfl) (pe_op op_mod (pv 1) pe_int))
   (pss_one (ps_if (pt_cmpR op_eq (pv 2) pe_int (nomark _)) (pss_one (ps_expr (pe_callD D_table (hr.mono (by decide)) rfl pass_cx (pa_cons (hs:=st_Name) (pv 0) pa_nil)))) (pss_one (ps_if (pt_cmpR op_eq (pv 2) pe_int (nomark _)) (pss_one (ps_expr (pe_callD D_total (hr.mono (by decide)) rfl pass_cx (pa_cons (hs:=st_Name) (pv 0) (pa_cons (hs:=st_Constant) pe_int (pa_cons (hs:=st_Subscript) (pe_ix ix_list (pe_lst (pa_cons (hs:=st_Constant) pe_int (pa_cons (hs:=st_Constant) pe_int (pa_cons (hs:=st_Constant) pe_int pa_nil)))) (pe_op op_mod (pe_op op_fdivX (pv 1) pe_int) pe_int) (fun _ _=>rfl)) pa_nil)))))) (pss_one (ps_expr (pe_callD D_without (hr.mono (by decide)) rfl pass_cx (pa_cons (hs:=st_Call) (pe_makeD M_Net (hr.mono (by decide)) rfl pass_cx (pa_cons (hs:=st_Call) (pe_makeN T.n_Chances rfl) (pa_cons (hs:=st_Constant) pe_int (pa_cons (hs:=st_List) (pe_lst (pa_cons (hs:=st_Tuple) (pe_tup (pa_cons (hs:=st_Constant) pe_int (pa_cons (hs:=st_Constant) pe_int (pa_cons (hs:=st_Tuple) (pe_tup (pa_cons (hs:=st_Constant) pe_int (pa_cons (hs:=st_Constant) pe_int pa_nil))) pa_nil)))) (pa_cons (hs:=st_Tuple) (pe_tup (pa_cons (hs:=st_Constant) pe_int (pa_cons (hs:=st_Constant) pe_int (pa_cons (hs:=st_Tuple) (pe_tup (pa_cons (hs:=st_Constant) pe_int (pa_cons (hs:=st_Constant) pe_int pa_nil))) pa_nil)))) (pa_cons (hs:=st_Tuple) (pe_tup (pa_cons (hs:=st_Constant) pe_int (pa_cons (hs:=st_Constant) pe_int (pa_cons (hs:=st_Tuple) (pe_tup (pa_cons (hs:=st_Constant) pe_int (pa_cons (hs:=st_Constant) pe_int pa_nil))) pa_nil)))) pa_nil)))) pa_nil)))) (pa_cons (hs:=st_Constant) pe_int pa_nil)))))))))),?_⟩
  have l64:esS.length≤64:=by decide
  have TF:TFits .chances trivial esS 3:=graphS.tfits l64 (by decide)
  refine ⟨_,rfl,_,_,rfl,rfl,(by show (0:Int) < 3; decide),?_⟩
  refine ⟨_,rfl,rfl,_,rfl,iteEqI (fun c=>?_) (fun c=>?_)⟩
  ·exact ⟨_,rfl,np,kp,tp,.chances,trivial,3,xs,esS,rfl,N,trivial,graphS,l64,TF,by decide,fun _=>e,fun A hA=>by rw [stageS] at hA; cases hA⟩
  refine ⟨_,rfl,rfl,_,rfl,iteEqI (fun c=>?_) (fun c=>?_)⟩
  ·refine ⟨_,rfl,(by show 3≤sizeLine; decide),fun l0 nl0=>?_⟩
   have u0:=same_one (o:=.lst [V.int 0,.int 1,.int 2]) nl0
   obtain ⟨z,ez,hz⟩:=pickV3 (x:=V.int 0) (y:=.int 1) (z:=V.int 2) (c:=cell / 3)
   refine ⟨_,rfl,_,_,rfl,rfl,⟨by decide,by decide⟩,_,_,rfl,rfl,(by show (0:Int) < 3; decide),l0,_,_,_,rfl,rfl,SqL.of upd_same,ez,?_⟩
   obtain ⟨p,rfl,hp⟩:∃ p:Int,z=.int p∧(p=0∨p=1∨p=2):=by
    rcases hz with rfl | rfl | rfl
    ·exact ⟨_,rfl,.inl rfl⟩
    ·exact ⟨_,rfl,.inr (.inl rfl)⟩
    ·exact ⟨_,rfl,.inr (.inr rfl)⟩
   exact ⟨np,kp,tp,.chances,3,0,p,xs,_,rfl,N.same u0,by decide,by omega,(fun y=>absurd (show ((0:Int)≤0∧(0:Int) < 3)∧(0≤p∧p < 3) by omega) y),fun _=>⟨trivial,esS,rfl,trivial,graphS,l64,TF,stageS,fun H' s'=>e H' (u0.trans s')⟩⟩
  ·have s0:=Same.refl H
   refine fun kp kdx nkp nkdx nek=>?_
   have uk:Same H (upd (upd H kdx (.own kp)) kp (.ins a.cChances kdx [])):=same_two nkp nkdx
   have k:KindAt a (upd (upd H kdx (.own kp)) kp (.ins a.cChances kdx [])) kp .chances:=⟨kdx,upd_same⟩
   generalize upd (upd H kdx (.own kp)) kp (.ins a.cChances kdx [])=H1 at uk k ⊢
   have s0:=s0.trans uk
   refine ⟨(by show 2≤sizeLine; decide),fun p1 np1=>?_⟩
   have v1:=same_one (o:=.tup [V.int 1,.int 3]) np1
   have w1:IsW (upd H1 p1 (.tup [V.int 1,.int 3])) (.ref p1) (.pair 1 3):=upd_same
   generalize upd H1 p1 (.tup [V.int 1,.int 3])=H2 at v1 w1 ⊢
   have k:=k.same v1
   have s0:=s0.trans v1
   refine ⟨(by show 3≤sizeLine; decide),fun t1 nt1=>?_⟩
   have u1:=same_one (o:=.tup [V.int (0),.int (0),.ref p1]) nt1
   have r1:IsRoad (upd H2 t1 (.tup [V.int (0),.int (0),.ref p1])) (.ref t1) ⟨0,0,.pair 1 3⟩:=⟨t1,.ref p1,rfl,upd_same,w1.same u1⟩
   generalize upd H2 t1 (.tup [V.int (0),.int (0),.ref p1])=H3 at u1 r1 ⊢
   have k:=k.same u1
   have s0:=s0.trans u1
   refine ⟨(by show 2≤sizeLine; decide),fun p2 np2=>?_⟩
   have v2:=same_one (o:=.tup [V.int 2,.int 3]) np2
   have w2:IsW (upd H3 p2 (.tup [V.int 2,.int 3])) (.ref p2) (.pair 2 3):=upd_same
   generalize upd H3 p2 (.tup [V.int 2,.int 3])=H4 at v2 w2 ⊢
   have k:=k.same v2
   have r1:=r1.same v2
   have s0:=s0.trans v2
   refine ⟨(by show 3≤sizeLine; decide),fun t2 nt2=>?_⟩
   have u2:=same_one (o:=.tup [V.int (0),.int (0),.ref p2]) nt2
   have r2:IsRoad (upd H4 t2 (.tup [V.int (0),.int (0),.ref p2])) (.ref t2) ⟨0,0,.pair 2 3⟩:=⟨t2,.ref p2,rfl,upd_same,w2.same u2⟩
   generalize upd H4 t2 (.tup [V.int (0),.int (0),.ref p2])=H5 at u2 r2 ⊢
   have k:=k.same u2
   have r1:=r1.same u2
   have s0:=s0.trans u2
   refine ⟨(by show 2≤sizeLine; decide),fun p3 np3=>?_⟩
   have v3:=same_one (o:=.tup [V.int 1,.int 1]) np3
   have w3:IsW (upd H5 p3 (.tup [V.int 1,.int 1])) (.ref p3) (.pair 1 1):=upd_same
   generalize upd H5 p3 (.tup [V.int 1,.int 1])=H6 at v3 w3 ⊢
   have k:=k.same v3
   have r1:=r1.same v3
   have r2:=r2.same v3
   have s0:=s0.trans v3
   refine ⟨(by show 3≤sizeLine; decide),fun t3 nt3=>?_⟩
   have u3:=same_one (o:=.tup [V.int (1),.int (0),.ref p3]) nt3
   have r3:IsRoad (upd H6 t3 (.tup [V.int (1),.int (0),.ref p3])) (.ref t3) ⟨1,0,.pair 1 1⟩:=⟨t3,.ref p3,rfl,upd_same,w3.same u3⟩
   generalize upd H6 t3 (.tup [V.int (1),.int (0),.ref p3])=H7 at u3 r3 ⊢
   have k:=k.same u3
   have r1:=r1.same u3
   have r2:=r2.same u3
   have s0:=s0.trans u3
   refine ⟨(by show 3≤sizeLine; decide),fun l nl=>?_⟩
   have ul:=same_one (o:=.lst [V.ref t1,.ref t2,.ref t3]) nl
   have z:(upd H7 l (.lst [V.ref t1,.ref t2,.ref t3])) l=some (.lst [V.ref t1,.ref t2,.ref t3]):=upd_same
   generalize upd H7 l (.lst [V.ref t1,.ref t2,.ref t3])=H8 at ul z ⊢
   have k:=k.same ul
   have r1:=r1.same ul
   have r2:=r2.same ul
   have r3:=r3.same ul
   have s0:=s0.trans ul
   have R:IsRoads H8 [V.ref t1,.ref t2,.ref t3] [⟨0,0,.pair 1 3⟩,⟨0,0,.pair 2 3⟩,⟨1,0,.pair 1 1⟩]:=.cons r1 (.cons r2 (.cons r3 .nil))
   have yy:netYes .chances 2 [⟨0,0,.pair 1 3⟩,⟨0,0,.pair 2 3⟩,⟨1,0,.pair 1 1⟩]=true:=by decide +kernel
   have yw:worthsOk .chances [⟨0,0,.pair 1 3⟩,⟨0,0,.pair 2 3⟩,⟨1,0,.pair 1 1⟩]=true:=by decide +kernel
   have sm:∀ r∈([⟨0,0,.pair 1 3⟩,⟨0,0,.pair 2 3⟩,⟨1,0,.pair 1 1⟩]:List Road),Sm 4000 r.w:=by decide +kernel
   refine mk_any k trivial trivial z R (log2_small (by decide)) (fun _ _=>sm) (fun _ _ np2 tp2 H1 s1 _ N2=>?_) (fun y=>by rw [yy] at y; cases y) (fun _ y=>by rw [yw] at y; cases y)
   have s0:=s0.trans s1
   rw [← roadsT] at N2
   exact ⟨np2,kp,tp2,.chances,2,0,_,_,rfl,N2,by decide,(fun y=>absurd y (by decide)),(fun _ y=>absurd (by decide) y),fun _ _=>⟨trivial,esT,rfl,trivial,graphT,by decide,starT,fun H2 s2=>e H2 (s0.trans s2)⟩⟩
end
end K15
namespace K15
open PySem L2 Ws
seal PE PT PW PA PC PS PSs PG PGs PI PO PJ PTs
section
variable {P : Program} {w : World} {K : W.Frag} {mg : Str → Option Value} {base : Heap} {a : Adr}
theorem pickV5 {x1 x2 x3 x4 x5:V} {c:Int}:∃ u,atI [x1,x2,x3,x4,x5] (c % 5)=some u∧(u=x1∨u=x2∨u=x3∨u=x4∨u=x5):=by
 have a:=Int.emod_nonneg c (show (5:Int)≠0 by decide)
 have b:=Int.emod_lt_of_pos c (show (0:Int) < 5 by decide)
 generalize c % 5=i at a b
 obtain rfl | rfl | rfl | rfl | rfl:i=0∨i=1∨i=2∨i=3∨i=4:=by omega
 ·exact ⟨_,rfl,.inl rfl⟩
 ·exact ⟨_,rfl,.inr (.inl rfl)⟩
 ·exact ⟨_,rfl,.inr (.inr (.inl rfl))⟩
 ·exact ⟨_,rfl,.inr (.inr (.inr (.inl rfl)))⟩
 ·exact ⟨_,rfl,.inr (.inr (.inr (.inr rfl)))⟩
theorem pick22 {x y:V} {m n:Int} {c:Int}:∃ z k,atI [x,y] (c % 2)=some z∧atI [V.int m,.int n] (c % 2)=some (.int k)∧((z=x∧k=m)∨(z=y∧k=n)):=by
 have a:=Int.emod_nonneg c (show (2:Int)≠0 by decide)
 have b:=Int.emod_lt_of_pos c (show (0:Int) < 2 by decide)
 generalize c % 2=i at a b
 obtain rfl | rfl:i=0∨i=1:=by omega
 ·exact ⟨x,m,rfl,rfl,.inl ⟨rfl,rfl⟩⟩
 ·exact ⟨y,n,rfl,rfl,.inr ⟨rfl,rfl⟩⟩
def spDone (a:Adr):Sp:=fun vs H Q E=>∃ (k:Nat) (cell far:Int),vs=[.int (k:Int),.int cell,.int far]∧k < 8∧0≤far∧far < 10 ^ 59∧∀ H',Same H H'→E (.ref (refC a k)) none H'
theorem sc_law_done:FnScope ["way","cell","far","plain","shared","other"] ["way","cell","far"] (defScope (top 65)):=⟨rfl,rfl,rfl,by decide +kernel,rfl,by decide +kernel,by decide +kernel⟩
theorem d_law_done (hP:P.given.tree=none) (T:Tx K mg a) (M_Net:Mkr P w K mg base 38 "Net" a.cNet ["self","kind","places","roads"] (spNet a)) (M_Rests:Mkr P w K mg base 1 "Rests" a.cRests ["self","m"] (spInit a)) (D_law_no_net:Dn P w K mg base 41 "_law_no_net" ["cell","far"] (spRef2 a.cNoNet)) (D_law_no_worth:Dn P w K mg base 41 "_law_no_worth" ["cell","far"] (spRef2 a.cNoWorth))
  (D_law_no_place:Dn P w K mg base 41 "_law_no_place" ["net","cell","far"] (spNoPl a)) (D_law_no_sum:Dn P w K mg base 41 "_law_no_sum" ["net","cell"] (spNoSm a)) (D_worth_of:Dn P w K mg base 36 "worth_of" ["net","place","row"] (spWalk a)) (D_by_steps:Dn P w K mg base 38 "by_steps" ["net","place","other","steps"] (spBySt a)) (D_way_for:Dn P w K mg base 39 "way_for" ["net","place","other"] (spWF a))
  (F:DefAt K mg "_law_done" (top 65)):Dn P w K mg base 42 "_law_done" ["way","cell","far"] (spDone a):=by
 obtain ⟨f,fd,hm,F⟩:=F.ex
 refine ⟨f,fd,hm,F.kp,F.binds fun _ _ _ _ _ _ us hl=>match us,hl with | [_,_,_],_=>rfl,?_⟩
 refine F.okX sc_law_done (fun vs H Q E h=>?_) (fun cdv A outer s H vs Q E hr h=>?_)
 ·obtain ⟨_,_,_,rfl,_⟩:=h
  rfl
 ·obtain ⟨wy,cell,far,rfl,w8,f0,f1,e⟩:=h
  refine ⟨_,(pss_cons (ps_set (i:=3) sc_law_done.nd rfl (Or.inl rfl) (pe_makeD M_Net (hr.mono (by decide)) rfl pass_cx (pa_cons (hs:=st_Call) (pe_makeN T.n_Fewest rfl) (pa_cons (hs:=st_Constant) pe_int (pa_cons (hs:=st_List) (pe_lst (pa_cons (hs:=st_Tuple) (pe_tup (pa_cons (hs:=st_Constant) pe_int (pa_cons (hs:=st_Constant) pe_int (pa_cons (hs:=st_Constant) pe_int pa_nil)))) (pa_cons (hs:=st_Tuple) (pe_tup (pa_cons (hs:=st_Constant) pe_int (pa_cons (hs:=st_Constant) pe_int (pa_cons (hs:=st_Constant) pe_int pa_nil)))) (pa_cons (hs:=st_Tuple) (pe_tup (pa_cons (hs:=st_Constant) pe_int (pa_cons (hs:=st_Constant) pe_int (pa_cons (hs:=st_Constant) pe_int pa_nil)))) pa_nil)))) pa_nil)))))
   (pss_cons (ps_set (i:=4) sc_law_done.nd rfl (Or.inl rfl) (pe_makeD M_Net (hr.mono (by decide)) rfl pass_cx (pa_cons (hs:=st_Call) (pe_makeN T.n_Chances rfl) (pa_cons (hs:=st_Constant) pe_int (pa_cons (hs:=st_List) (pe_lst (pa_cons (hs:=st_Tuple) (pe_tup (pa_cons (hs:=st_Constant) pe_int (pa_cons (hs:=st_Constant) pe_int (pa_cons (hs:=st_Tuple) (pe_tup (pa_cons (hs:=st_Constant) pe_int (pa_cons (hs:=st_Constant) pe_int pa_nil))) pa_nil)))) (pa_cons (hs:=st_Tuple) (pe_tup (pa_cons (hs:=st_Constant) pe_int (pa_cons (hs:=st_Constant) pe_int (pa_cons (hs:=st_Tuple) (pe_tup (pa_cons (hs:=st_Constant) pe_int (pa_cons (hs:=st_Constant) pe_int pa_nil))) pa_nil)))) (pa_cons (hs:=st_Tuple) (pe_tup (pa_cons (hs:=st_Constant) pe_int (pa_cons (hs:=st_Constant) pe_int (pa_cons (hs:=st_Tuple) (pe_tup (pa_cons (hs:=st_Constant) pe_int (pa_cons (hs:=st_Constant) pe_int pa_nil))) pa_nil)))) (pa_cons (hs:=st_Tuple) (pe_tup (pa_cons (hs:=st_Constant) pe_int (pa_cons (hs:=st_Constant) pe_int (pa_cons (hs:=st_Tuple) (pe_tup (pa_cons (hs:=st_Constant) pe_int (pa_cons (hs:=st_Constant) pe_int pa_nil))) pa_nil)))) pa_nil))))) pa_nil)))))
   (pss_one (ps_if (pt_cmpR op_eq (pv 0) pe_int (nomark _)) (pss_one (ps_expr (pe_callD D_law_no_net (hr.mono (by decide)) rfl pass_cx (pa_cons (hs:=st_Name) (pv 1) (pa_cons (hs:=st_Name) (pv 2) pa_nil))))) (pss_one (ps_if (pt_cmpR op_eq (pv 0) pe_int (nomark _)) (pss_one (ps_expr (pe_callD D_law_no_worth (hr.mono (by decide)) rfl pass_cx (pa_cons (hs:=st_Name) (pv 1) (pa_cons (hs:=st_Name) (pv 2) pa_nil))))) (pss_one (ps_if (pt_cmpR op_eq (pv 0) pe_int (nomark _)) (pss_one (ps_expr (pe_callD D_law_no_place (hr.mono (by decide)) rfl pass_cx (pa_cons (hs:=st_Subscript) (pe_ix ix_list (pe_lst (pa_cons (hs:=st_Name) (pv 3) (pa_cons (hs:=st_Name) (pv 4) pa_nil))) (pe_op op_mod (pe_op op_fdivX (pv 1) pe_int) pe_int) (fun _ _=>rfl)) (pa_cons (hs:=st_Name) (pv 1) (pa_cons (hs:=st_Name) (pv 2) pa_nil)))))) (pss_one (ps_if (pt_cmpR op_eq (pv 0) pe_int (nomark _)) (pss_one (ps_expr (pe_callD D_worth_of (hr.mono (by decide)) rfl pass_cx (pa_cons (hs:=st_Name) (pv 3) (pa_cons (hs:=st_Constant) pe_int (pa_cons (hs:=st_Subscript) (pe_ix ix_list (pe_lst (pa_cons (hs:=st_List) (pe_lst (pa_cons (hs:=st_Constant) pe_int pa_nil)) (pa_cons (hs:=st_List) (pe_lst (pa_cons (hs:=st_Constant) pe_int (pa_cons (hs:=st_Constant) pe_int pa_nil))) (pa_cons (hs:=st_List) (pe_lst (pa_cons (hs:=st_Constant) pe_int (pa_cons (hs:=st_Constant) pe_int (pa_cons (hs:=st_Constant) pe_int pa_nil)))) (pa_cons (hs:=st_List) (pe_lst (pa_cons (hs:=st_BinOp) (pe_op op_add pe_int (pv 2)) pa_nil)) (pa_cons (hs:=st_List) (pe_lst (pa_cons (hs:=st_Constant) pe_int (pa_cons (hs:=st_BinOp) (pe_op op_sub (pe_un un_neg pe_int) (pv 2)) (pa_cons (hs:=st_Constant) pe_int pa_nil)))) pa_nil)))))) (pe_op op_mod (pv 1) pe_int) (fun _ _=>rfl)) pa_nil)))))) (pss_one (ps_if (pt_cmpR op_eq (pv 0) pe_int (nomark _)) (pss_one (ps_expr (pe_callD D_by_steps (hr.mono (by decide)) rfl pass_cx (pa_cons (hs:=st_Name) (pv 3) (pa_cons (hs:=st_Constant) pe_int (pa_cons (hs:=st_Constant) pe_int (pa_cons (hs:=st_Subscript) (pe_ix ix_list (pe_lst (pa_cons (hs:=st_BinOp) (pe_op op_sub (pe_un un_neg pe_int) (pv 2)) (pa_cons (hs:=st_Constant) pe_int (pa_cons (hs:=st_BinOp) (pe_op op_add pe_int (pv 2)) pa_nil)))) (pe_op op_mod (pv 1) pe_int) (fun _ _=>rfl)) pa_nil))))))) (pss_one (ps_if (pt_cmpR op_eq (pv 0) pe_int (nomark _)) (pss_cons (ps_set (i:=5) sc_law_done.nd rfl (Or.inl rfl) (pe_ix ix_list (pe_lst (pa_cons (hs:=st_Call) (pe_makeN T.n_Counted rfl) (pa_cons (hs:=st_Call) (pe_makeN T.n_Musts rfl) (pa_cons (hs:=st_Call) (pe_makeD M_Rests (hr.mono (by decide)) rfl pass_cx (pa_cons (hs:=st_Constant) pe_int pa_nil)) pa_nil)))) (pe_op op_mod (pv 1) pe_int) (fun _ _=>rfl)))
   (pss_one (ps_expr (pe_callD D_way_for (hr.mono (by decide)) rfl pass_cx (pa_cons (hs:=st_Subscript) (pe_ix ix_list (pe_lst (pa_cons (hs:=st_Call) (pe_makeD M_Net (hr.mono (by decide)) rfl pass_cx (pa_cons (hs:=st_Name) (pv 5) (pa_cons (hs:=st_Constant) pe_int (pa_cons (hs:=st_List) (pe_lst pa_nil) pa_nil)))) (pa_cons (hs:=st_Name) (pv 4) pa_nil))) (pe_op op_mod (pe_op op_fdivX (pv 1) pe_int) pe_int) (fun _ _=>rfl)) (pa_cons (hs:=st_Constant) pe_int (pa_cons (hs:=st_Constant) pe_int pa_nil))))))) (pss_one (ps_if (pt_cmpR op_eq (pv 0) pe_int (nomark _)) (pss_one (ps_expr (pe_callD D_law_no_sum (hr.mono (by decide)) rfl pass_cx (pa_cons (hs:=st_Name) (pv 4) (pa_cons (hs:=st_Name) (pv 1) pa_nil))))) (pss_one (ps_expr (pe_callD D_way_for (hr.mono (by decide)) rfl pass_cx (pa_cons (hs:=st_Subscript) (pe_ix ix_list (pe_lst (pa_cons (hs:=st_Name) (pv 3) (pa_cons (hs:=st_Call) (pe_makeD M_Net (hr.mono (by decide)) rfl pass_cx (pa_cons (hs:=st_Call) (pe_makeN T.n_Widest rfl) (pa_cons (hs:=st_Constant) pe_int (pa_cons (hs:=st_List) (pe_lst (pa_cons (hs:=st_Tuple) (pe_tup (pa_cons (hs:=st_Constant) pe_int (pa_cons (hs:=st_Constant) pe_int (pa_cons (hs:=st_Constant) pe_int pa_nil)))) pa_nil)) pa_nil)))) pa_nil))) (pe_op op_mod (pv 1) pe_int) (fun _ _=>rfl)) (pa_cons (hs:=st_Constant) pe_int (pa_cons (hs:=st_Subscript) (pe_ix ix_list (pe_lst (pa_cons (hs:=st_Constant) pe_int (pa_cons (hs:=st_Constant) pe_int pa_nil))) (pe_op op_mod (pv 1) pe_int) (fun _ _=>rfl)) pa_nil)))))))))))))))))))))),?_⟩
  have S0:=Same.refl H
  refine fun pkp pkdx pnkp pnkdx pnek=>?_
  have puk:Same H (upd (upd H pkdx (.own pkp)) pkp (.ins a.cFewest pkdx [])):=same_two pnkp pnkdx
  have pk:KindAt a (upd (upd H pkdx (.own pkp)) pkp (.ins a.cFewest pkdx [])) pkp .fewest:=⟨pkdx,upd_same⟩
  generalize upd (upd H pkdx (.own pkp)) pkp (.ins a.cFewest pkdx [])=pH1 at puk pk ⊢
  have S0:=S0.trans puk
  refine ⟨(by show 3≤sizeLine; decide),fun pt1 pnt1=>?_⟩
  have pu1:=same_one (o:=.tup [V.int (0),.int (1),.int (5)]) pnt1
  have pr1:IsRoad (upd pH1 pt1 (.tup [V.int (0),.int (1),.int (5)])) (.ref pt1) ⟨0,1,.int (5)⟩:=⟨pt1,.int (5),rfl,upd_same,rfl⟩
  generalize upd pH1 pt1 (.tup [V.int (0),.int (1),.int (5)])=pH2 at pu1 pr1 ⊢
  have pk:=pk.same pu1
  have S0:=S0.trans pu1
  refine ⟨(by show 3≤sizeLine; decide),fun pt2 pnt2=>?_⟩
  have pu2:=same_one (o:=.tup [V.int (1),.int (0),.int (2)]) pnt2
  have pr2:IsRoad (upd pH2 pt2 (.tup [V.int (1),.int (0),.int (2)])) (.ref pt2) ⟨1,0,.int (2)⟩:=⟨pt2,.int (2),rfl,upd_same,rfl⟩
  generalize upd pH2 pt2 (.tup [V.int (1),.int (0),.int (2)])=pH3 at pu2 pr2 ⊢
  have pk:=pk.same pu2
  have pr1:=pr1.same pu2
  have S0:=S0.trans pu2
  refine ⟨(by show 3≤sizeLine; decide),fun pt3 pnt3=>?_⟩
  have pu3:=same_one (o:=.tup [V.int (2),.int (2),.int (0)]) pnt3
  have pr3:IsRoad (upd pH3 pt3 (.tup [V.int (2),.int (2),.int (0)])) (.ref pt3) ⟨2,2,.int (0)⟩:=⟨pt3,.int (0),rfl,upd_same,rfl⟩
  generalize upd pH3 pt3 (.tup [V.int (2),.int (2),.int (0)])=pH4 at pu3 pr3 ⊢
  have pk:=pk.same pu3
  have pr1:=pr1.same pu3
  have pr2:=pr2.same pu3
  have S0:=S0.trans pu3
  refine ⟨(by show 3≤sizeLine; decide),fun pl pnl=>?_⟩
  have pul:=same_one (o:=.lst [V.ref pt1,.ref pt2,.ref pt3]) pnl
  have pz:(upd pH4 pl (.lst [V.ref pt1,.ref pt2,.ref pt3])) pl=some (.lst [V.ref pt1,.ref pt2,.ref pt3]):=upd_same
  generalize upd pH4 pl (.lst [V.ref pt1,.ref pt2,.ref pt3])=pH5 at pul pz ⊢
  have pk:=pk.same pul
  have pr1:=pr1.same pul
  have pr2:=pr2.same pul
  have pr3:=pr3.same pul
  have S0:=S0.trans pul
  have pR:IsRoads pH5 [V.ref pt1,.ref pt2,.ref pt3] [⟨0,1,.int (5)⟩,⟨1,0,.int (2)⟩,⟨2,2,.int (0)⟩]:=.cons pr1 (.cons pr2 (.cons pr3 .nil))
  have pyy:netYes .fewest 3 [⟨0,1,.int (5)⟩,⟨1,0,.int (2)⟩,⟨2,2,.int (0)⟩]=true:=by decide +kernel
  have pyw:worthsOk .fewest [⟨0,1,.int (5)⟩,⟨1,0,.int (2)⟩,⟨2,2,.int (0)⟩]=true:=by decide +kernel
  refine mk_any pk trivial trivial pz pR (log2_small (by decide)) (fun c _=>nomatch c) (fun _ _ pn ptp G1 s1 _ NP=>?_) (fun y=>by rw [pyy] at y; cases y) (fun _ y=>by rw [pyw] at y; cases y)
  have NP:NetIs a G1 pn .fewest 3 pkp ptp _ (esP.map (Edge.road .fewest)):=NP
  have S0:=S0.trans s1
  have S1:=Same.refl G1
  refine fun skp skdx snkp snkdx snek=>?_
  have suk:Same G1 (upd (upd G1 skdx (.own skp)) skp (.ins a.cChances skdx [])):=same_two snkp snkdx
  have sk:KindAt a (upd (upd G1 skdx (.own skp)) skp (.ins a.cChances skdx [])) skp .chances:=⟨skdx,upd_same⟩
  generalize upd (upd G1 skdx (.own skp)) skp (.ins a.cChances skdx [])=sH1 at suk sk ⊢
  have S1:=S1.trans suk
  refine ⟨(by show 2≤sizeLine; decide),fun sp1 snp1=>?_⟩
  have sv1:=same_one (o:=.tup [V.int 1,.int 1]) snp1
  have sw1:IsW (upd sH1 sp1 (.tup [V.int 1,.int 1])) (.ref sp1) (.pair 1 1):=upd_same
  generalize upd sH1 sp1 (.tup [V.int 1,.int 1])=sH2 at sv1 sw1 ⊢
  have sk:=sk.same sv1
  have S1:=S1.trans sv1
  refine ⟨(by show 3≤sizeLine; decide),fun st1 snt1=>?_⟩
  have su1:=same_one (o:=.tup [V.int (0),.int (1),.ref sp1]) snt1
  have sr1:IsRoad (upd sH2 st1 (.tup [V.int (0),.int (1),.ref sp1])) (.ref st1) ⟨0,1,.pair 1 1⟩:=⟨st1,.ref sp1,rfl,upd_same,sw1.same su1⟩
  generalize upd sH2 st1 (.tup [V.int (0),.int (1),.ref sp1])=sH3 at su1 sr1 ⊢
  have sk:=sk.same su1
  have S1:=S1.trans su1
  refine ⟨(by show 2≤sizeLine; decide),fun sp2 snp2=>?_⟩
  have sv2:=same_one (o:=.tup [V.int 1,.int 2]) snp2
  have sw2:IsW (upd sH3 sp2 (.tup [V.int 1,.int 2])) (.ref sp2) (.pair 1 2):=upd_same
  generalize upd sH3 sp2 (.tup [V.int 1,.int 2])=sH4 at sv2 sw2 ⊢
  have sk:=sk.same sv2
  have sr1:=sr1.same sv2
  have S1:=S1.trans sv2
  refine ⟨(by show 3≤sizeLine; decide),fun st2 snt2=>?_⟩
  have su2:=same_one (o:=.tup [V.int (1),.int (0),.ref sp2]) snt2
  have sr2:IsRoad (upd sH4 st2 (.tup [V.int (1),.int (0),.ref sp2])) (.ref st2) ⟨1,0,.pair 1 2⟩:=⟨st2,.ref sp2,rfl,upd_same,sw2.same su2⟩
  generalize upd sH4 st2 (.tup [V.int (1),.int (0),.ref sp2])=sH5 at su2 sr2 ⊢
  have sk:=sk.same su2
  have sr1:=sr1.same su2
  have S1:=S1.trans su2
  refine ⟨(by show 2≤sizeLine; decide),fun sp3 snp3=>?_⟩
  have sv3:=same_one (o:=.tup [V.int 1,.int 2]) snp3
  have sw3:IsW (upd sH5 sp3 (.tup [V.int 1,.int 2])) (.ref sp3) (.pair 1 2):=upd_same
  generalize upd sH5 sp3 (.tup [V.int 1,.int 2])=sH6 at sv3 sw3 ⊢
  have sk:=sk.same sv3
  have sr1:=sr1.same sv3
  have sr2:=sr2.same sv3
  have S1:=S1.trans sv3
  refine ⟨(by show 3≤sizeLine; decide),fun st3 snt3=>?_⟩
  have su3:=same_one (o:=.tup [V.int (1),.int (1),.ref sp3]) snt3
  have sr3:IsRoad (upd sH6 st3 (.tup [V.int (1),.int (1),.ref sp3])) (.ref st3) ⟨1,1,.pair 1 2⟩:=⟨st3,.ref sp3,rfl,upd_same,sw3.same su3⟩
  generalize upd sH6 st3 (.tup [V.int (1),.int (1),.ref sp3])=sH7 at su3 sr3 ⊢
  have sk:=sk.same su3
  have sr1:=sr1.same su3
  have sr2:=sr2.same su3
  have S1:=S1.trans su3
  refine ⟨(by show 2≤sizeLine; decide),fun sp4 snp4=>?_⟩
  have sv4:=same_one (o:=.tup [V.int 1,.int 9]) snp4
  have sw4:IsW (upd sH7 sp4 (.tup [V.int 1,.int 9])) (.ref sp4) (.pair 1 9):=upd_same
  generalize upd sH7 sp4 (.tup [V.int 1,.int 9])=sH8 at sv4 sw4 ⊢
  have sk:=sk.same sv4
  have sr1:=sr1.same sv4
  have sr2:=sr2.same sv4
  have sr3:=sr3.same sv4
  have S1:=S1.trans sv4
  refine ⟨(by show 3≤sizeLine; decide),fun st4 snt4=>?_⟩
  have su4:=same_one (o:=.tup [V.int (2),.int (0),.ref sp4]) snt4
  have sr4:IsRoad (upd sH8 st4 (.tup [V.int (2),.int (0),.ref sp4])) (.ref st4) ⟨2,0,.pair 1 9⟩:=⟨st4,.ref sp4,rfl,upd_same,sw4.same su4⟩
  generalize upd sH8 st4 (.tup [V.int (2),.int (0),.ref sp4])=sH9 at su4 sr4 ⊢
  have sk:=sk.same su4
  have sr1:=sr1.same su4
  have sr2:=sr2.same su4
  have sr3:=sr3.same su4
  have S1:=S1.trans su4
  refine ⟨(by show 4≤sizeLine; decide),fun sl snl=>?_⟩
  have sul:=same_one (o:=.lst [V.ref st1,.ref st2,.ref st3,.ref st4]) snl
  have sz:(upd sH9 sl (.lst [V.ref st1,.ref st2,.ref st3,.ref st4])) sl=some (.lst [V.ref st1,.ref st2,.ref st3,.ref st4]):=upd_same
  generalize upd sH9 sl (.lst [V.ref st1,.ref st2,.ref st3,.ref st4])=sH10 at sul sz ⊢
  have sk:=sk.same sul
  have sr1:=sr1.same sul
  have sr2:=sr2.same sul
  have sr3:=sr3.same sul
  have sr4:=sr4.same sul
  have S1:=S1.trans sul
  have sR:IsRoads sH10 [V.ref st1,.ref st2,.ref st3,.ref st4] [⟨0,1,.pair 1 1⟩,⟨1,0,.pair 1 2⟩,⟨1,1,.pair 1 2⟩,⟨2,0,.pair 1 9⟩]:=.cons sr1 (.cons sr2 (.cons sr3 (.cons sr4 .nil)))
  have syy:netYes .chances 3 [⟨0,1,.pair 1 1⟩,⟨1,0,.pair 1 2⟩,⟨1,1,.pair 1 2⟩,⟨2,0,.pair 1 9⟩]=true:=by decide +kernel
  have syw:worthsOk .chances [⟨0,1,.pair 1 1⟩,⟨1,0,.pair 1 2⟩,⟨1,1,.pair 1 2⟩,⟨2,0,.pair 1 9⟩]=true:=by decide +kernel
  have ssm:∀ r∈([⟨0,1,.pair 1 1⟩,⟨1,0,.pair 1 2⟩,⟨1,1,.pair 1 2⟩,⟨2,0,.pair 1 9⟩]:List Road),Sm 4000 r.w:=by decide +kernel
  refine mk_any sk trivial trivial sz sR (log2_small (by decide)) (fun _ _=>ssm) (fun _ _ sn stp G2 s2 _ NS=>?_) (fun y=>by rw [syy] at y; cases y) (fun _ y=>by rw [syw] at y; cases y)
  rw [← roadsS] at NS
  have NS:NetIs a G2 sn .chances 3 skp stp _ (esS.map (Edge.road .chances)):=NS
  have S1:=S1.trans s2
  have NP:=NP.same S1
  have S2:=S0.trans S1
  have hK:HasK .fewest:=trivial
  dsimp only [gName]
  refine ⟨_,rfl,rfl,_,rfl,iteEqI (fun c=>?_) (fun c0=>?_)⟩
  ·obtain rfl:wy=0:=by omega
   exact ⟨_,rfl,_,rfl,cell,far,rfl,f0,f1,fun H' s'=>e H' (S2.trans s')⟩
  refine ⟨_,rfl,rfl,_,rfl,iteEqI (fun c=>?_) (fun c1=>?_)⟩
  ·obtain rfl:wy=1:=by omega
   exact ⟨_,rfl,_,rfl,cell,far,rfl,f0,f1,fun H' s'=>e H' (S2.trans s')⟩
  refine ⟨_,rfl,rfl,_,rfl,iteEqI (fun c=>?_) (fun c2=>?_)⟩
  ·obtain rfl:wy=2:=by omega
   refine ⟨_,rfl,_,rfl,(by show 2≤sizeLine; decide),fun l0 nl0=>?_⟩
   have u0:=same_one (o:=.lst [V.ref pn,.ref sn]) nl0
   obtain ⟨z,ez,hz⟩:=pick2 (x:=V.ref pn) (y:=V.ref sn) (c:=cell / 24)
   refine ⟨_,rfl,_,_,rfl,rfl,⟨by decide,by decide⟩,_,_,rfl,rfl,(by show (0:Int) < 2; decide),l0,_,_,_,rfl,rfl,SqL.of upd_same,ez,_,rfl,_,rfl,?_⟩
   rcases hz with rfl | rfl
   ·exact ⟨pn,pkp,ptp,.fewest,trivial,_,esP,cell,far,rfl,NP.same u0,trivial,graphP,by decide,f0,f1,fun H' s'=>e H' ((S2.trans u0).trans s')⟩
   ·exact ⟨sn,skp,stp,.chances,trivial,_,esS,cell,far,rfl,NS.same u0,trivial,graphS,by decide,f0,f1,fun H' s'=>e H' ((S2.trans u0).trans s')⟩
  refine ⟨_,rfl,rfl,_,rfl,iteEqI (fun c=>?_) (fun c3=>?_)⟩
  ·obtain rfl:wy=3:=by omega
   refine ⟨_,rfl,?_⟩
   refine ⟨(by show 1≤sizeLine; decide),fun q1 nq1=>?_⟩
   have qu1:=same_one (o:=.lst [V.int (1)]) nq1
   have qz1:(upd G2 q1 (.lst [V.int (1)])) q1=some (.lst [V.int (1)]):=upd_same
   generalize upd G2 q1 (.lst [V.int (1)])=qH1 at qu1 qz1 ⊢
   have S2:=S2.trans qu1
   have NP:=NP.same qu1
   refine ⟨(by show 2≤sizeLine; decide),fun q2 nq2=>?_⟩
   have qu2:=same_one (o:=.lst [V.int (0),V.int (0)]) nq2
   have qz2:(upd qH1 q2 (.lst [V.int (0),V.int (0)])) q2=some (.lst [V.int (0),V.int (0)]):=upd_same
   generalize upd qH1 q2 (.lst [V.int (0),V.int (0)])=qH2 at qu2 qz2 ⊢
   have S2:=S2.trans qu2
   have NP:=NP.same qu2
   have qz1:=qu2 _ _ qz1
   refine ⟨(by show 3≤sizeLine; decide),fun q3 nq3=>?_⟩
   have qu3:=same_one (o:=.lst [V.int (0),V.int (1),V.int (2)]) nq3
   have qz3:(upd qH2 q3 (.lst [V.int (0),V.int (1),V.int (2)])) q3=some (.lst [V.int (0),V.int (1),V.int (2)]):=upd_same
   generalize upd qH2 q3 (.lst [V.int (0),V.int (1),V.int (2)])=qH3 at qu3 qz3 ⊢
   have S2:=S2.trans qu3
   have NP:=NP.same qu3
   have qz1:=qu3 _ _ qz1
   have qz2:=qu3 _ _ qz2
   refine ⟨_,rfl,_,_,rfl,rfl,(by show 1≤sizeLine; decide),fun q4 nq4=>?_⟩
   have qu4:=same_one (o:=.lst [V.int (3 + far)]) nq4
   have qz4:(upd qH3 q4 (.lst [V.int (3 + far)])) q4=some (.lst [V.int (3 + far)]):=upd_same
   generalize upd qH3 q4 (.lst [V.int (3 + far)])=qH4 at qu4 qz4 ⊢
   have S2:=S2.trans qu4
   have NP:=NP.same qu4
   have qz1:=qu4 _ _ qz1
   have qz2:=qu4 _ _ qz2
   have qz3:=qu4 _ _ qz3
   refine ⟨_,rfl,_,rfl,_,_,rfl,rfl,(by show 3≤sizeLine; decide),fun q5 nq5=>?_⟩
   have qu5:=same_one (o:=.lst [V.int (0),V.int (-1 - far),V.int (0)]) nq5
   have qz5:(upd qH4 q5 (.lst [V.int (0),V.int (-1 - far),V.int (0)])) q5=some (.lst [V.int (0),V.int (-1 - far),V.int (0)]):=upd_same
   generalize upd qH4 q5 (.lst [V.int (0),V.int (-1 - far),V.int (0)])=qH5 at qu5 qz5 ⊢
   have S2:=S2.trans qu5
   have NP:=NP.same qu5
   have qz1:=qu5 _ _ qz1
   have qz2:=qu5 _ _ qz2
   have qz3:=qu5 _ _ qz3
   have qz4:=qu5 _ _ qz4
   refine ⟨(by show 5≤sizeLine; decide),fun q6 nq6=>?_⟩
   have qu6:=same_one (o:=.lst [V.ref q1,.ref q2,.ref q3,.ref q4,.ref q5]) nq6
   have S2:=S2.trans qu6
   have NP:=NP.same qu6
   have qz1:=qu6 _ _ qz1
   have qz2:=qu6 _ _ qz2
   have qz3:=qu6 _ _ qz3
   have qz4:=qu6 _ _ qz4
   have qz5:=qu6 _ _ qz5
   obtain ⟨z,ez,hz⟩:=pickV5 (x1:=V.ref q1) (x2:=V.ref q2) (x3:=V.ref q3) (x4:=V.ref q4) (x5:=V.ref q5) (c:=cell)
   refine ⟨_,rfl,_,_,rfl,rfl,(by show (0:Int) < 5; decide),q6,_,_,_,rfl,rfl,SqL.of upd_same,ez,?_⟩
   rcases hz with rfl | rfl | rfl | rfl | rfl
   ·exact ⟨pn,0,.fewest,trivial,3,pkp,ptp,_,esP,q1,[1],rfl,NP,trivial,graphP,qz1,by decide,by decide,by decide,(fun y=>absurd (by decide) y),(fun _ _ H' s'=>e H' (S2.trans s')),(fun _ h y hw=>by rw [show walkE (ks .fewest trivial) esP (0:Int).toNat (ks .fewest trivial).one [1]=none from rfl] at hw; cases hw)⟩
   ·exact ⟨pn,0,.fewest,trivial,3,pkp,ptp,_,esP,q2,[0,0],rfl,NP,trivial,graphP,qz2,by decide,by decide,by decide,(fun y=>absurd (by decide) y),(fun _ _ H' s'=>e H' (S2.trans s')),(fun _ h y hw=>by rw [show walkE (ks .fewest trivial) esP (0:Int).toNat (ks .fewest trivial).one [0,0]=none from rfl] at hw; cases hw)⟩
   ·exact ⟨pn,0,.fewest,trivial,3,pkp,ptp,_,esP,q3,[0,1,2],rfl,NP,trivial,graphP,qz3,by decide,by decide,by decide,(fun y=>absurd (by decide) y),(fun _ _ H' s'=>e H' (S2.trans s')),(fun _ h y hw=>by rw [show walkE (ks .fewest trivial) esP (0:Int).toNat (ks .fewest trivial).one [0,1,2]=none from rfl] at hw; cases hw)⟩
   ·have h3:walkE (ks .fewest trivial) esP 0 (ks .fewest trivial).one [3 + far]=none:=by rw [walkE,if_pos (.inr (by show ((3:Nat):Int)≤3 + far; omega))]
    exact ⟨pn,0,.fewest,trivial,3,pkp,ptp,_,esP,q4,[3 + far],rfl,NP,trivial,graphP,qz4,by simp,by decide,(fun k hk=>by rw [List.mem_singleton.mp hk]; omega),(fun y=>absurd (by decide) y),(fun _ _ H' s'=>e H' (S2.trans s')),(fun _ h y hw=>by rw [show walkE (ks .fewest trivial) esP (0:Int).toNat (ks .fewest trivial).one [3 + far]=none from h3] at hw; cases hw)⟩
   ·have h3:walkE (ks .fewest trivial) esP 0 (ks .fewest trivial).one [0,-1 - far,0]=none:=by
     show walkE (ks .fewest trivial) esP 1 _ [-1 - far,0]=none
     rw [walkE,if_pos (.inl (by omega))]
    exact ⟨pn,0,.fewest,trivial,3,pkp,ptp,_,esP,q5,[0,-1 - far,0],rfl,NP,trivial,graphP,qz5,by simp,by decide,(fun k hk=>by simp at hk; omega),(fun y=>absurd (by decide) y),(fun _ _ H' s'=>e H' (S2.trans s')),(fun _ h y hw=>by rw [show walkE (ks .fewest trivial) esP (0:Int).toNat (ks .fewest trivial).one [0,-1 - far,0]=none from h3] at hw; cases hw)⟩
  refine ⟨_,rfl,rfl,_,rfl,iteEqI (fun c=>?_) (fun c4=>?_)⟩
  ·obtain rfl:wy=4:=by omega
   refine ⟨_,rfl,_,rfl,_,rfl,_,_,rfl,rfl,_,rfl,_,_,rfl,rfl,(by show 3≤sizeLine; decide),fun l0 nl0=>?_⟩
   have u0:=same_one (o:=.lst [V.int (-1 - far),.int 41,.int (41 + far)]) nl0
   obtain ⟨z,ez,hz⟩:=pickV3 (x:=V.int (-1 - far)) (y:=.int 41) (z:=V.int (41 + far)) (c:=cell)
   refine ⟨_,rfl,_,_,rfl,rfl,(by show (0:Int) < 3; decide),l0,_,_,_,rfl,rfl,SqL.of upd_same,ez,?_⟩
   obtain ⟨p,rfl,hp⟩:∃ p:Int,z=.int p∧(p=-1 - far∨p=41∨p=41 + far):=by
    rcases hz with rfl | rfl | rfl
    ·exact ⟨_,rfl,.inl rfl⟩
    ·exact ⟨_,rfl,.inr (.inl rfl)⟩
    ·exact ⟨_,rfl,.inr (.inr rfl)⟩
   exact ⟨pn,pkp,ptp,.fewest,3,0,2,p,_,_,rfl,NP.same u0,by decide,by decide,by omega,(fun y=>absurd (by decide) y),fun _=>⟨by omega,e _ (S2.trans u0)⟩⟩
  refine ⟨_,rfl,rfl,_,rfl,iteEqI (fun c=>?_) (fun c5=>?_)⟩
  ·obtain rfl:wy=5:=by omega
   refine fun ckp ckdx cnkp cnkdx cnek=>?_
   have cuk:Same G2 (upd (upd G2 ckdx (.own ckp)) ckp (.ins a.cCounted ckdx [])):=same_two cnkp cnkdx
   have ck:KindAt a (upd (upd G2 ckdx (.own ckp)) ckp (.ins a.cCounted ckdx [])) ckp .counted:=⟨ckdx,upd_same⟩
   generalize upd (upd G2 ckdx (.own ckp)) ckp (.ins a.cCounted ckdx [])=cH1 at cuk ck ⊢
   have NS:=NS.same cuk
   have S2:=S2.trans cuk
   refine fun mkp mkdx mnkp mnkdx mnek=>?_
   have muk:Same cH1 (upd (upd cH1 mkdx (.own mkp)) mkp (.ins a.cMusts mkdx [])):=same_two mnkp mnkdx
   have mk:KindAt a (upd (upd cH1 mkdx (.own mkp)) mkp (.ins a.cMusts mkdx [])) mkp .musts:=⟨mkdx,upd_same⟩
   generalize upd (upd cH1 mkdx (.own mkp)) mkp (.ins a.cMusts mkdx [])=mH2 at muk mk ⊢
   have NS:=NS.same muk
   have ck:=ck.same muk
   have S2:=S2.trans muk
   refine fun rkp rkdx rnkp rnkdx rnek=>⟨rkp,rkdx,2,rfl,upd_same,log2_small (by decide),fun _=>⟨rfl,?_⟩,fun n=>absurd (by decide) n⟩
   have ruk:Same mH2 (upd (upd (upd mH2 rkdx (.own rkp)) rkp (.ins a.cRests rkdx [])) rkp (.ins a.cRests rkdx [("m",.int 2)])):=fun b' o' e'=>by rw [upd_ne (ne_of_none e' rnkp)]; exact same_two rnkp rnkdx b' o' e'
   have rk:KindAt a (upd (upd (upd mH2 rkdx (.own rkp)) rkp (.ins a.cRests rkdx [])) rkp (.ins a.cRests rkdx [("m",.int 2)])) rkp (.rests 2):=⟨rkdx,upd_same⟩
   generalize upd (upd (upd mH2 rkdx (.own rkp)) rkp (.ins a.cRests rkdx [])) rkp (.ins a.cRests rkdx [("m",.int 2)])=rH3 at ruk rk ⊢
   have NS:=NS.same ruk
   have ck:=ck.same ruk
   have mk:=mk.same ruk
   have S2:=S2.trans ruk
   refine ⟨(by show 3≤sizeLine; decide),fun l0 nl0=>?_⟩
   have ul0:=same_one (o:=.lst [V.ref ckp,.ref mkp,.ref rkp]) nl0
   have z0:(upd rH3 l0 (.lst [V.ref ckp,.ref mkp,.ref rkp])) l0=some (.lst [V.ref ckp,.ref mkp,.ref rkp]):=upd_same
   generalize upd rH3 l0 (.lst [V.ref ckp,.ref mkp,.ref rkp])=rH4 at ul0 z0 ⊢
   have NS:=NS.same ul0
   have ck:=ck.same ul0
   have mk:=mk.same ul0
   have rk:=rk.same ul0
   have S2:=S2.trans ul0
   obtain ⟨z,ez,hz⟩:=pickV3 (x:=V.ref ckp) (y:=.ref mkp) (z:=V.ref rkp) (c:=cell)
   refine ⟨_,rfl,_,_,rfl,rfl,(by show (0:Int) < 3; decide),l0,_,_,_,rfl,rfl,SqL.of z0,ez,?_⟩
   obtain ⟨ko,kd,ok,rfl,hk,hpk,nc,hK⟩:∃ (ko:Addr) (kd:Kd) (ok:KdOk kd),z=.ref ko∧KindAt a rH4 ko kd∧picksK kd=false∧kd≠.chances∧HasK kd:=by
    rcases hz with rfl | rfl | rfl
    ·exact ⟨ckp,.counted,trivial,rfl,ck,rfl,(fun h=>nomatch h),trivial⟩
    ·exact ⟨mkp,.musts,trivial,rfl,mk,rfl,(fun h=>nomatch h),trivial⟩
    ·exact ⟨rkp,.rests 2,⟨by decide,by decide⟩,rfl,rk,rfl,(fun h=>nomatch h),trivial⟩
   dsimp only [gName]
   refine ⟨_,rfl,(by show 0≤sizeLine; decide),fun l1 nl1=>?_⟩
   have ul1:=same_one (o:=.lst []) nl1
   have yy:netYes kd 2 []=true:=by cases kd <;> first | rfl | decide +kernel
   refine mk_any (hk.same ul1) hK ok upd_same .nil (log2_small (by decide)) (fun y=>absurd y nc) (fun _ _ on otp G3 s3 _ NO=>?_) (fun y=>by rw [yy] at y; cases y) (fun _ y=>by cases y)
   have NO:NetIs a G3 on kd 2 ko otp [] ([].map (Edge.road kd)):=NO
   have s3:=ul1.trans s3
   have NS:=NS.same s3
   have S2:=S2.trans s3
   refine ⟨_,rfl,(by show 2≤sizeLine; decide),fun l2 nl2=>?_⟩
   have ul2:=same_one (o:=.lst [V.ref on,.ref sn]) nl2
   have S2:=S2.trans ul2
   obtain ⟨z,ez,hz⟩:=pick2 (x:=V.ref on) (y:=V.ref sn) (c:=cell / 3)
   refine ⟨_,rfl,_,_,rfl,rfl,⟨by decide,by decide⟩,_,_,rfl,rfl,(by show (0:Int) < 2; decide),l2,_,_,_,rfl,rfl,SqL.of upd_same,ez,?_⟩
   rcases hz with rfl | rfl
   ·exact ⟨on,ko,otp,kd,ok,2,0,1,[],[],rfl,NO.same ul2,hK,graphN kd nc,Nat.zero_le _,by decide,by decide,(fun y=>absurd (by decide) y),fun _ _=>e _ S2,(fun _ y=>by rw [hpk] at y; cases y),(fun _ y=>by rw [hpk] at y; cases y)⟩
   ·exact ⟨sn,skp,stp,.chances,trivial,3,0,1,_,esS,rfl,NS.same ul2,trivial,graphS,by decide,by decide,by decide,(fun y=>absurd (by decide) y),fun _ _=>e _ S2,(fun _ y=>by cases y),(fun _ y=>by cases y)⟩
  refine ⟨_,rfl,rfl,_,rfl,iteEqI (fun c=>?_) (fun c6=>?_)⟩
  ·obtain rfl:wy=6:=by omega
   exact ⟨_,rfl,_,rfl,sn,skp,stp,_,cell,rfl,NS,fun H' s'=>e H' (S2.trans s')⟩
  ·obtain rfl:wy=7:=by omega
   refine ⟨_,rfl,?_⟩
   refine fun wkp wkdx wnkp wnkdx wnek=>?_
   have wuk:Same G2 (upd (upd G2 wkdx (.own wkp)) wkp (.ins a.cWidest wkdx [])):=same_two wnkp wnkdx
   have wk:KindAt a (upd (upd G2 wkdx (.own wkp)) wkp (.ins a.cWidest wkdx [])) wkp .widest:=⟨wkdx,upd_same⟩
   generalize upd (upd G2 wkdx (.own wkp)) wkp (.ins a.cWidest wkdx [])=wH1 at wuk wk ⊢
   have NP:=NP.same wuk
   have S2:=S2.trans wuk
   refine ⟨(by show 3≤sizeLine; decide),fun wt1 wnt1=>?_⟩
   have wu1:=same_one (o:=.tup [V.int (0),.int (1),.int (0)]) wnt1
   have wr1:IsRoad (upd wH1 wt1 (.tup [V.int (0),.int (1),.int (0)])) (.ref wt1) ⟨0,1,.int (0)⟩:=⟨wt1,.int (0),rfl,upd_same,rfl⟩
   generalize upd wH1 wt1 (.tup [V.int (0),.int (1),.int (0)])=wH2 at wu1 wr1 ⊢
   have NP:=NP.same wu1
   have wk:=wk.same wu1
   have S2:=S2.trans wu1
   refine ⟨(by show 1≤sizeLine; decide),fun wl wnl=>?_⟩
   have wul:=same_one (o:=.lst [V.ref wt1]) wnl
   have wz:(upd wH2 wl (.lst [V.ref wt1])) wl=some (.lst [V.ref wt1]):=upd_same
   generalize upd wH2 wl (.lst [V.ref wt1])=wH3 at wul wz ⊢
   have NP:=NP.same wul
   have wk:=wk.same wul
   have wr1:=wr1.same wul
   have S2:=S2.trans wul
   have wR:IsRoads wH3 [V.ref wt1] [⟨0,1,.int (0)⟩]:=.cons wr1 .nil
   have yy:netYes .widest 2 [⟨0,1,.int (0)⟩]=true:=by decide +kernel
   have yw:worthsOk .widest [⟨0,1,.int (0)⟩]=true:=by decide +kernel
   refine mk_any wk trivial trivial wz wR (log2_small (by decide)) (fun c _=>nomatch c) (fun _ _ wn wtp G3 s3 _ NW=>?_) (fun y=>by rw [yy] at y; cases y) (fun _ y=>by rw [yw] at y; cases y)
   have NW:NetIs a G3 wn .widest 2 wkp wtp _ (esW.map (Edge.road .widest)):=NW
   have NP:=NP.same s3
   have S2:=S2.trans s3
   refine ⟨(by show 2≤sizeLine; decide),fun l1 nl1=>?_⟩
   have u1:=same_one (o:=.lst [V.ref pn,.ref wn]) nl1
   have z1:=upd_same (H:=G3) (a:=l1) (o:=.lst [V.ref pn,.ref wn])
   generalize upd G3 l1 (.lst [V.ref pn,.ref wn])=G4 at u1 z1 ⊢
   obtain ⟨z,k,ez,ek,hz⟩:=pick22 (x:=V.ref pn) (y:=V.ref wn) (m:=2) (n:=1) (c:=cell)
   refine ⟨_,rfl,_,_,rfl,rfl,(by show (0:Int) < 2; decide),l1,_,_,_,rfl,rfl,SqL.of z1,ez,(by show 2≤sizeLine; decide),fun l2 nl2=>?_⟩
   have u2:=same_one (o:=.lst [V.int 2,.int 1]) nl2
   have u12:=u1.trans u2
   refine ⟨_,rfl,_,_,rfl,rfl,(by show (0:Int) < 2; decide),l2,_,_,_,rfl,rfl,SqL.of upd_same,ek,?_⟩
   rcases hz with ⟨rfl,rfl⟩ | ⟨rfl,rfl⟩
   ·exact ⟨pn,pkp,ptp,.fewest,trivial,3,0,2,_,esP,rfl,NP.same u12,trivial,graphP,by decide,by decide,by decide,(fun y=>absurd (by decide) y),(fun _ y=>by cases y),(fun _ _ _ H' s'=>e H' ((S2.trans u12).trans s')),(fun _ _ y=>absurd bestP y)⟩
   ·exact ⟨wn,wkp,wtp,.widest,trivial,2,0,1,_,esW,rfl,NW.same u12,trivial,graphW,by decide,by decide,by decide,(fun y=>absurd (by decide) y),(fun _ y=>by cases y),(fun _ _ _ H' s'=>e H' ((S2.trans u12).trans s')),(fun _ _ y=>absurd bestW y)⟩
end
end K15
namespace K15
open PySem L2 Ws
seal PE PT PW PA PC PS PSs PG PGs PI PO PJ PTs
section
variable {P : Program} {w : World} {K : W.Frag} {mg : Str → Option Value} {base : Heap} {a : Adr}
theorem which_snoc {wy:Nat}:∀ {c:Nat},c < 9→(whichL wy).take (c + 1)=(whichL wy).take c ++ [V.bl (decide (wy=c) || decide (c=8))]
 | 0,_=>by rw [show decide ((0:Nat)=8)=false from rfl,Bool.or_false]; rfl
 | 1,_=>by rw [show decide ((1:Nat)=8)=false from rfl,Bool.or_false]; rfl
 | 2,_=>by rw [show decide ((2:Nat)=8)=false from rfl,Bool.or_false]; rfl
 | 3,_=>by rw [show decide ((3:Nat)=8)=false from rfl,Bool.or_false]; rfl
 | 4,_=>by rw [show decide ((4:Nat)=8)=false from rfl,Bool.or_false]; rfl
 | 5,_=>by rw [show decide ((5:Nat)=8)=false from rfl,Bool.or_false]; rfl
 | 6,_=>by rw [show decide ((6:Nat)=8)=false from rfl,Bool.or_false]; rfl
 | 7,_=>by rw [show decide ((7:Nat)=8)=false from rfl,Bool.or_false]; rfl
 | 8,_=>by rw [show decide ((8:Nat)=8)=true from rfl,Bool.or_true]; rfl
 | c + 9,h=>absurd h (by omega)
theorem sc_law:FnScope ["script","way","far","told","e"] ["script"] (defScope (top 66)):=⟨rfl,rfl,rfl,by decide +kernel,rfl,by decide +kernel,by decide +kernel⟩
theorem ok_law (hP:P.given.tree=none) (T:Tx K mg a) (D_law_cell_at:Dn P w K mg base 1 "_law_cell_at" ["script","k"] (spCell K)) (D_law_done:Dn P w K mg base 42 "_law_done" ["way","cell","far"] (spDone a)) (D_law_which:Dh P w K mg base 1 "_law_which" ["e"] (spWhich a))
  {f:Addr} {fd:FuncData} (F:Fun K "law" "law" (top 66) f fd):FnOk P w K mg base (CXE P w) 43 f fd ["script"] (spLaw K):=by
 refine F.okN sc_law (fun vs H Q E h=>?_) (fun cdv A outer s H vs Q E hr h=>?_)
 ·obtain ⟨_,_,rfl,_⟩:=h
  rfl
 ·obtain ⟨sa,ns,rfl,hS,hlen,q⟩:=h
  refine ⟨_,(pss_cons (ps_set (i:=1) sc_law.nd rfl (Or.inr rfl) (pe_op op_mod (pe_callD D_law_cell_at (hr.mono (by decide)) rfl passE0 (pa_cons (hs:=st_Name) (pv 0) (pa_cons (hs:=st_Constant) pe_int pa_nil))) pe_int))
   (pss_cons (ps_set (i:=2) sc_law.nd rfl (Or.inl rfl) (pe_op op_mod (pe_callD D_law_cell_at (hr.mono (by decide)) rfl passE0 (pa_cons (hs:=st_Name) (pv 0) (pa_cons (hs:=st_Constant) pe_int pa_nil))) (pe_op op_pow pe_int pe_int)))
   (pss_cons (ps_set (i:=3) sc_law.nd rfl (Or.inl rfl) (pe_lst pa_nil))
   (pss_cons (ps_tryAE (asg:=[]) (i:=4) T.k_SumError rfl rfl ⟨rfl,rfl⟩ (fun _=>rfl) sc_law.nd rfl rfl (fun Et pn k xe hx ho=>(pss_one (ps_expr (pe_callD D_law_done (hr.mono (by decide)) rfl hx (pa_cons (hs:=st_Name) (pv 1) (pa_cons (hs:=st_Call) (pe_callD D_law_cell_at (hr.mono (by decide)) rfl hx (pa_cons (hs:=st_Name) (pv 0) (pa_cons (hs:=st_Constant) pe_int pa_nil))) (pa_cons (hs:=st_Name) (pv 2) pa_nil))))))) (fun x pn=>(pss_one (ps_set (i:=3) sc_law.nd rfl (Or.inl rfl) (pe_callH D_law_which (hr.mono (by decide)).h.mark rfl passE0 (pa_cons (hs:=st_Name) (pv 4) pa_nil))))))
   (pss_one (ps_ret (pe_cmpR (op_eqAL 0 (hr.al 0)) (pv 3) (pe_comp (N:=["script","way","far","told","e"]) (osc:=defScope (top 66)) (k:=1) (N':=["k","way"]) (fr:=[1]) ⟨rfl,by decide +kernel,by decide +kernel,by decide +kernel,rfl,by decide +kernel,by decide +kernel⟩ rfl rfl rfl (pi_range1 rfl T.b_range (pa_cons (hs:=st_Constant) pe_int pa_nil)) (fun ca=>⟨(pg_name (i:=0) (show List.Nodup (["k","way"]:List Str) from by decide +kernel) rfl (Or.inl rfl)),pts_nil,(pe_or (pe_cmpR op_eq (pv 0) (pv 1) (nomark _)) (pe_one (pe_cmpR op_eq (pv 0) pe_int (nomark _))))⟩)) (nomark _)))))))),?_⟩
  obtain ⟨wy,ew,w8⟩:=modlt (i:=ns.getD (0:Int).toNat 0) (m:=8) (by decide)
  refine ⟨_,rfl,sa,ns,0,rfl,hS,by decide,_,_,rfl,rfl,(by show (0:Int) < 8; decide),?_⟩
  dsimp only [gName]
  rw [show ns.getD (0:Int).toNat 0 % 8=(wy:Int) from ew]
  have p59:(0:Int) < 10 ^ (59:Int).toNat:=by decide
  refine ⟨_,rfl,sa,ns,2,rfl,hS,by decide,_,_,rfl,rfl,⟨by decide,by decide,by decide⟩,_,_,rfl,rfl,p59,?_⟩
  have f0:=Int.emod_nonneg (ns.getD (2:Int).toNat 0) (Int.ne_of_gt p59)
  have f1:=Int.emod_lt_of_pos (ns.getD (2:Int).toNat 0) p59
  dsimp only [gName]
  refine ⟨(by show 0≤sizeLine; decide),fun l0 nl0=>?_⟩
  have u0:=same_one (o:=.lst []) nl0
  have hS:=same_lst u0 hS
  generalize upd H l0 (.lst [])=H1 at u0 hS ⊢
  dsimp only [gName]
  refine ⟨fun cls _ H2=>Same H1 H2∧cls=.ref (refC a wy),fun pn k xe=>?_,?_⟩
  ·exact ⟨_,rfl,_,rfl,sa,ns,1,rfl,hS,by decide,_,rfl,wy,_,_,rfl,w8,f0,f1,fun H' s'=>⟨s',rfl⟩⟩
  ·rintro cls H2 x ⟨s2,rfl⟩ nx'
   have ex:(upd H2 x (.ext (ExcAt x (.ref (refC a wy))))) x=some (.ext (ExcAt x (.ref (refC a wy)))):=upd_same
   refine ⟨refM T w8,fun pn=>?_⟩
   refine ⟨_,rfl,x,wy,rfl,w8,ex,fun l H3 s3 hl=>?_⟩
   dsimp only [gName]
   refine ⟨_,rfl,9,rfl,by decide,by decide,comp_range (n:=(9:Int).toNat) (fun c zs H'=>H'=H3∧zs=(whichL wy).take c) (lines (by decide)) ⟨rfl,rfl⟩ ?_ ?_⟩
   ·rintro c zs H' hc ⟨rfl,rfl⟩ ca
    have hc:c < 9:=hc
    have ec:(0 + (c:Int))=((c:Nat):Int):=by omega
    refine ⟨⟨rfl,rfl⟩,?_⟩
    rw [ec]
    rw [which_snoc hc]
    refine ⟨_,rfl,_,rfl,rfl,_,rfl,iteEqI (fun d=>?_) (fun d=>?_)⟩
    ·rw [decide_eq_true (show wy=c by omega),Bool.true_or]
     exact ⟨rfl,rfl⟩
    ·rw [decide_eq_false (show ¬ wy=c by omega),Bool.false_or]
     refine ⟨_,rfl,rfl,rfl,?_⟩
     rw [show decide (V.int (c:Int)=V.int 8)=decide (c=8) from decide_eq_decide.mpr ⟨fun h=>by have:=V.int.inj h; omega,fun h=>by rw [h]; rfl⟩]
   ·rintro zs H' ⟨rfl,rfl⟩ lm nlm
    have um:=same_one (o:=.lst ((whichL wy).take (9:Int).toNat)) nlm
    refine ⟨l,lm,_,_,rfl,rfl,SqL.of (um _ _ hl),SqL.of upd_same,?_,q _⟩
    exact alike_self fun x hx=>.inr (by simp [whichL] at hx; rcases hx with rfl | rfl | rfl | rfl | rfl | rfl | rfl | rfl | rfl <;> rfl)
end
end K15
namespace K15
open PySem L2 Ws
seal PE PT PW PA PC PS PSs PG PGs PI PO
section
theorem all_mk {l:W.OpenLaw} {w:World} {K:W.Frag} {h:Heap} {mg:Str→Option Value} {fa:Addr} (hP:l.prog.given.tree=none) (X:K.In h) (G:h.Ns mainGlobals mg) (hfa:mg "law"=some (.ref fa))
  {c_SumError c_NoNet c_NoWorth c_NoPlace c_NoRoad c_NoSteps c_NoPick c_NoSum c_NoWay c_Kind c_Fewest c_Widest c_Counted c_Likeliest c_Chances c_Musts c_Rests c_Net:Addr} {t_WIDEST t_MOST_RESTS t_MOST_PLACES t_MOST_ROADS t_MOST_STEPS:Tok} {fZ2c:Addr} {ocZ2c kVZ2c dcZ2c pmZ2c cdZ2c ctZ2c:Value} {odZ2c anZ2c:Option Addr} {slZ2c:Array (Option Value)} {fZ20:Addr} {ocZ20 kVZ20 dcZ20 pmZ20 cdZ20 ctZ20:Value} {odZ20 anZ20:Option Addr} {slZ20:Array (Option Value)} {fZ1h:Addr} {ocZ1h kVZ1h dcZ1h pmZ1h cdZ1h ctZ1h:Value} {odZ1h anZ1h:Option Addr} {slZ1h:Array (Option Value)} {fZ2j:Addr} {ocZ2j kVZ2j dcZ2j pmZ2j cdZ2j ctZ2j:Value} {odZ2j anZ2j:Option Addr} {slZ2j:Array (Option Value)} {fZ2m:Addr} {ocZ2m kVZ2m dcZ2m pmZ2m cdZ2m ctZ2m:Value} {odZ2m anZ2m:Option Addr} {slZ2m:Array (Option Value)} {fZ1w:Addr} {ocZ1w kVZ1w dcZ1w pmZ1w cdZ1w ctZ1w:Value} {odZ1w anZ1w:Option Addr} {slZ1w:Array (Option Value)} {fZ2h:Addr} {ocZ2h kVZ2h dcZ2h pmZ2h cdZ2h ctZ2h:Value} {odZ2h anZ2h:Option Addr} {slZ2h:Array (Option Value)} {fZv:Addr} {ocZv kVZv dcZv pmZv cdZv ctZv:Value} {odZv anZv:Option Addr} {slZv:Array (Option Value)} {fZ2i:Addr} {ocZ2i kVZ2i dcZ2i pmZ2i cdZ2i ctZ2i:Value} {odZ2i anZ2i:Option Addr} {slZ2i:Array (Option Value)} {fZ1n:Addr} {ocZ1n kVZ1n dcZ1n pmZ1n cdZ1n ctZ1n:Value} {odZ1n anZ1n:Option Addr} {slZ1n:Array (Option Value)} {fZ1o:Addr} {ocZ1o kVZ1o dcZ1o pmZ1o cdZ1o ctZ1o:Value} {odZ1o anZ1o:Option Addr} {slZ1o:Array (Option Value)} {fZ15:Addr} {ocZ15 kVZ15 dcZ15 pmZ15 cdZ15 ctZ15:Value} {odZ15 anZ15:Option Addr} {slZ15:Array (Option Value)} {fZn:Addr} {ocZn kVZn dcZn pmZn cdZn ctZn:Value} {odZn anZn:Option Addr} {slZn:Array (Option Value)} {fZ17:Addr} {ocZ17 kVZ17 dcZ17 pmZ17 cdZ17 ctZ17:Value} {odZ17 anZ17:Option Addr} {slZ17:Array (Option Value)} {fZ1s:Addr} {ocZ1s kVZ1s dcZ1s pmZ1s cdZ1s ctZ1s:Value} {odZ1s anZ1s:Option Addr} {slZ1s:Array (Option Value)} {fZ1z:Addr} {ocZ1z kVZ1z dcZ1z pmZ1z cdZ1z ctZ1z:Value} {odZ1z anZ1z:Option Addr} {slZ1z:Array (Option Value)} {fZ1m:Addr} {ocZ1m kVZ1m dcZ1m pmZ1m cdZ1m ctZ1m:Value} {odZ1m anZ1m:Option Addr} {slZ1m:Array (Option Value)} {fZ1p:Addr} {ocZ1p kVZ1p dcZ1p pmZ1p cdZ1p ctZ1p:Value} {odZ1p anZ1p:Option Addr} {slZ1p:Array (Option Value)} {fZ1d:Addr} {ocZ1d kVZ1d dcZ1d pmZ1d cdZ1d ctZ1d:Value} {odZ1d anZ1d:Option Addr} {slZ1d:Array (Option Value)} {fZm:Addr} {ocZm kVZm dcZm pmZm cdZm ctZm:Value} {odZm anZm:Option Addr} {slZm:Array (Option Value)} {fZ1b:Addr} {ocZ1b kVZ1b dcZ1b pmZ1b cdZ1b ctZ1b:Value} {odZ1b anZ1b:Option Addr} {slZ1b:Array (Option Value)} {fZ1q:Addr} {ocZ1q kVZ1q dcZ1q pmZ1q cdZ1q ctZ1q:Value} {odZ1q anZ1q:Option Addr} {slZ1q:Array (Option Value)} {fZ1r:Addr} {ocZ1r kVZ1r dcZ1r pmZ1r cdZ1r ctZ1r:Value} {odZ1r anZ1r:Option Addr} {slZ1r:Array (Option Value)} {fZj:Addr} {ocZj kVZj dcZj pmZj cdZj ctZj:Value} {odZj anZj:Option Addr} {slZj:Array (Option Value)} {fZi:Addr} {ocZi kVZi dcZi pmZi cdZi ctZi:Value} {odZi anZi:Option Addr} {slZi:Array (Option Value)} {fZb:Addr} {ocZb kVZb dcZb pmZb cdZb ctZb:Value} {odZb anZb:Option Addr} {slZb:Array (Option Value)} {fZ8:Addr} {ocZ8 kVZ8 dcZ8 pmZ8 cdZ8 ctZ8:Value} {odZ8 anZ8:Option Addr} {slZ8:Array (Option Value)} {fZe:Addr} {ocZe kVZe dcZe pmZe cdZe ctZe:Value} {odZe anZe:Option Addr} {slZe:Array (Option Value)} {fZo:Addr} {ocZo kVZo dcZo pmZo cdZo ctZo:Value} {odZo anZo:Option Addr} {slZo:Array (Option Value)} {fZp:Addr} {ocZp kVZp dcZp pmZp cdZp ctZp:Value} {odZp anZp:Option Addr} {slZp:Array (Option Value)} {fZy:Addr} {ocZy kVZy dcZy pmZy cdZy ctZy:Value} {odZy anZy:Option Addr} {slZy:Array (Option Value)} {fZz:Addr} {ocZz kVZz dcZz pmZz cdZz ctZz:Value} {odZz anZz:Option Addr} {slZz:Array (Option Value)} {fZt:Addr} {ocZt kVZt dcZt pmZt cdZt ctZt:Value} {odZt anZt:Option Addr} {slZt:Array (Option Value)} {fZ9:Addr} {ocZ9 kVZ9 dcZ9 pmZ9 cdZ9 ctZ9:Value} {odZ9 anZ9:Option Addr} {slZ9:Array (Option Value)} {fZu:Addr} {ocZu kVZu dcZu pmZu cdZu ctZu:Value} {odZu anZu:Option Addr} {slZu:Array (Option Value)} {fZ14:Addr} {ocZ14 kVZ14 dcZ14 pmZ14 cdZ14 ctZ14:Value} {odZ14 anZ14:Option Addr} {slZ14:Array (Option Value)} {fZ1e:Addr} {ocZ1e kVZ1e dcZ1e pmZ1e cdZ1e ctZ1e:Value} {odZ1e anZ1e:Option Addr} {slZ1e:Array (Option Value)} {fZ11:Addr} {ocZ11 kVZ11 dcZ11 pmZ11 cdZ11 ctZ11:Value} {odZ11 anZ11:Option Addr} {slZ11:Array (Option Value)} {fZw:Addr} {ocZw kVZw dcZw pmZw cdZw ctZw:Value} {odZw anZw:Option Addr} {slZw:Array (Option Value)} {fZr:Addr} {ocZr kVZr dcZr pmZr cdZr ctZr:Value} {odZr anZr:Option Addr} {slZr:Array (Option Value)} {fZa:Addr} {ocZa kVZa dcZa pmZa cdZa ctZa:Value} {odZa anZa:Option Addr} {slZa:Array (Option Value)} {fZs:Addr} {ocZs kVZs dcZs pmZs cdZs ctZs:Value} {odZs anZs:Option Addr} {slZs:Array (Option Value)} {fZ19:Addr} {ocZ19 kVZ19 dcZ19 pmZ19 cdZ19 ctZ19:Value} {odZ19 anZ19:Option Addr} {slZ19:Array (Option Value)} {fZ18:Addr} {ocZ18 kVZ18 dcZ18 pmZ18 cdZ18 ctZ18:Value} {odZ18 anZ18:Option Addr} {slZ18:Array (Option Value)} {fZ2b:Addr} {ocZ2b kVZ2b dcZ2b pmZ2b cdZ2b ctZ2b:Value} {odZ2b anZ2b:Option Addr} {slZ2b:Array (Option Value)} {fZ25:Addr} {ocZ25 kVZ25 dcZ25 pmZ25 cdZ25 ctZ25:Value} {odZ25 anZ25:Option Addr} {slZ25:Array (Option Value)} {fZh:Addr} {ocZh kVZh dcZh pmZh cdZh ctZh:Value} {odZh anZh:Option Addr} {slZh:Array (Option Value)} {fZk:Addr} {ocZk kVZk dcZk pmZk cdZk ctZk:Value} {odZk anZk:Option Addr} {slZk:Array (Option Value)} {fZd:Addr} {ocZd kVZd dcZd pmZd cdZd ctZd:Value} {odZd anZd:Option Addr} {slZd:Array (Option Value)} {fZ7:Addr} {ocZ7 kVZ7 dcZ7 pmZ7 cdZ7 ctZ7:Value} {odZ7 anZ7:Option Addr} {slZ7:Array (Option Value)} {fZc:Addr} {ocZc kVZc dcZc pmZc cdZc ctZc:Value} {odZc anZc:Option Addr} {slZc:Array (Option Value)} {fZq:Addr} {ocZq kVZq dcZq pmZq cdZq ctZq:Value} {odZq anZq:Option Addr} {slZq:Array (Option Value)} {fZl:Addr} {ocZl kVZl dcZl pmZl cdZl ctZl:Value} {odZl anZl:Option Addr} {slZl:Array (Option Value)} {fZ10:Addr} {ocZ10 kVZ10 dcZ10 pmZ10 cdZ10 ctZ10:Value} {odZ10 anZ10:Option Addr} {slZ10:Array (Option Value)} {fZ1u:Addr} {ocZ1u kVZ1u dcZ1u pmZ1u cdZ1u ctZ1u:Value} {odZ1u anZ1u:Option Addr} {slZ1u:Array (Option Value)} {fZ4:Addr} {ocZ4 kVZ4 dcZ4 pmZ4 cdZ4 ctZ4:Value} {odZ4 anZ4:Option Addr} {slZ4:Array (Option Value)} {fZ3:Addr} {ocZ3 kVZ3 dcZ3 pmZ3 cdZ3 ctZ3:Value} {odZ3 anZ3:Option Addr} {slZ3:Array (Option Value)} {fZ2:Addr} {ocZ2 kVZ2 dcZ2 pmZ2 cdZ2 ctZ2:Value} {odZ2 anZ2:Option Addr} {slZ2:Array (Option Value)} {fZ0:Addr} {ocZ0 kVZ0 dcZ0 pmZ0 cdZ0 ctZ0:Value} {odZ0 anZ0:Option Addr} {slZ0:Array (Option Value)} {fZ1:Addr} {ocZ1 kVZ1 dcZ1 pmZ1 cdZ1 ctZ1:Value} {odZ1 anZ1:Option Addr} {slZ1:Array (Option Value)} {fZ6:Addr} {ocZ6 kVZ6 dcZ6 pmZ6 cdZ6 ctZ6:Value} {odZ6 anZ6:Option Addr} {slZ6:Array (Option Value)} {fZ5:Addr} {ocZ5 kVZ5 dcZ5 pmZ5 cdZ5 ctZ5:Value} {odZ5 anZ5:Option Addr} {slZ5:Array (Option Value)} {fZ13:Addr} {ocZ13 kVZ13 dcZ13 pmZ13 cdZ13 ctZ13:Value} {odZ13 anZ13:Option Addr} {slZ13:Array (Option Value)} {fZ16:Addr} {ocZ16 kVZ16 dcZ16 pmZ16 cdZ16 ctZ16:Value} {odZ16 anZ16:Option Addr} {slZ16:Array (Option Value)} {fZ27:Addr} {ocZ27 kVZ27 dcZ27 pmZ27 cdZ27 ctZ27:Value} {odZ27 anZ27:Option Addr} {slZ27:Array (Option Value)} {fZ29:Addr} {ocZ29 kVZ29 dcZ29 pmZ29 cdZ29 ctZ29:Value} {odZ29 anZ29:Option Addr} {slZ29:Array (Option Value)} {fZ1v:Addr} {ocZ1v kVZ1v dcZ1v pmZ1v cdZ1v ctZ1v:Value} {odZ1v anZ1v:Option Addr} {slZ1v:Array (Option Value)} {fZ21:Addr} {ocZ21 kVZ21 dcZ21 pmZ21 cdZ21 ctZ21:Value} {odZ21 anZ21:Option Addr} {slZ21:Array (Option Value)} {fZ1l:Addr} {ocZ1l kVZ1l dcZ1l pmZ1l cdZ1l ctZ1l:Value} {odZ1l anZ1l:Option Addr} {slZ1l:Array (Option Value)} {fZ24:Addr} {ocZ24 kVZ24 dcZ24 pmZ24 cdZ24 ctZ24:Value} {odZ24 anZ24:Option Addr} {slZ24:Array (Option Value)} {fZ26:Addr} {ocZ26 kVZ26 dcZ26 pmZ26 cdZ26 ctZ26:Value} {odZ26 anZ26:Option Addr} {slZ26:Array (Option Value)} {fZ1j:Addr} {ocZ1j kVZ1j dcZ1j pmZ1j cdZ1j ctZ1j:Value} {odZ1j anZ1j:Option Addr} {slZ1j:Array (Option Value)} {fZ2k:Addr} {ocZ2k kVZ2k dcZ2k pmZ2k cdZ2k ctZ2k:Value} {odZ2k anZ2k:Option Addr} {slZ2k:Array (Option Value)} {fZ2d:Addr} {ocZ2d kVZ2d dcZ2d pmZ2d cdZ2d ctZ2d:Value} {odZ2d anZ2d:Option Addr} {slZ2d:Array (Option Value)} {fZ1x:Addr} {ocZ1x kVZ1x dcZ1x pmZ1x cdZ1x ctZ1x:Value} {odZ1x anZ1x:Option Addr} {slZ1x:Array (Option Value)} {fZ2l:Addr} {ocZ2l kVZ2l dcZ2l pmZ2l cdZ2l ctZ2l:Value} {odZ2l anZ2l:Option Addr} {slZ2l:Array (Option Value)} {fZ23:Addr} {ocZ23 kVZ23 dcZ23 pmZ23 cdZ23 ctZ23:Value} {odZ23 anZ23:Option Addr} {slZ23:Array (Option Value)} {fZ1c:Addr} {ocZ1c kVZ1c dcZ1c pmZ1c cdZ1c ctZ1c:Value} {odZ1c anZ1c:Option Addr} {slZ1c:Array (Option Value)} {fZ1g:Addr} {ocZ1g kVZ1g dcZ1g pmZ1g cdZ1g ctZ1g:Value} {odZ1g anZ1g:Option Addr} {slZ1g:Array (Option Value)} {fZx:Addr} {ocZx kVZx dcZx pmZx cdZx ctZx:Value} {odZx anZx:Option Addr} {slZx:Array (Option Value)} {fZf:Addr} {ocZf kVZf dcZf pmZf cdZf ctZf:Value} {odZf anZf:Option Addr} {slZf:Array (Option Value)} {fZ12:Addr} {ocZ12 kVZ12 dcZ12 pmZ12 cdZ12 ctZ12:Value} {odZ12 anZ12:Option Addr} {slZ12:Array (Option Value)} {fZ1k:Addr} {ocZ1k kVZ1k dcZ1k pmZ1k cdZ1k ctZ1k:Value} {odZ1k anZ1k:Option Addr} {slZ1k:Array (Option Value)} {fZ1i:Addr} {ocZ1i kVZ1i dcZ1i pmZ1i cdZ1i ctZ1i:Value} {odZ1i anZ1i:Option Addr} {slZ1i:Array (Option Value)} {fZ2e:Addr} {ocZ2e kVZ2e dcZ2e pmZ2e cdZ2e ctZ2e:Value} {odZ2e anZ2e:Option Addr} {slZ2e:Array (Option Value)} {fZ2f:Addr} {ocZ2f kVZ2f dcZ2f pmZ2f cdZ2f ctZ2f:Value} {odZ2f anZ2f:Option Addr} {slZ2f:Array (Option Value)} {fZg:Addr} {ocZg kVZg dcZg pmZg cdZg ctZg:Value} {odZg anZg:Option Addr} {slZg:Array (Option Value)} {fZ2a:Addr} {ocZ2a kVZ2a dcZ2a pmZ2a cdZ2a ctZ2a:Value} {odZ2a anZ2a:Option Addr} {slZ2a:Array (Option Value)} {fZ2n:Addr} {ocZ2n kVZ2n dcZ2n pmZ2n cdZ2n ctZ2n:Value} {odZ2n anZ2n:Option Addr} {slZ2n:Array (Option Value)} {fZ2g:Addr} {ocZ2g kVZ2g dcZ2g pmZ2g cdZ2g ctZ2g:Value} {odZ2g anZ2g:Option Addr} {slZ2g:Array (Option Value)} {fZ22:Addr} {ocZ22 kVZ22 dcZ22 pmZ22 cdZ22 ctZ22:Value} {odZ22 anZ22:Option Addr} {slZ22:Array (Option Value)} {fZ1y:Addr} {ocZ1y kVZ1y dcZ1y pmZ1y cdZ1y ctZ1y:Value} {odZ1y anZ1y:Option Addr} {slZ1y:Array (Option Value)} {fZ1a:Addr} {ocZ1a kVZ1a dcZ1a pmZ1a cdZ1a ctZ1a:Value} {odZ1a anZ1a:Option Addr} {slZ1a:Array (Option Value)} {fZ1f:Addr} {ocZ1f kVZ1f dcZ1f pmZ1f cdZ1f ctZ1f:Value} {odZ1f anZ1f:Option Addr} {slZ1f:Array (Option Value)} {fZ1t:Addr} {ocZ1t kVZ1t dcZ1t pmZ1t cdZ1t ctZ1t:Value} {odZ1t anZ1t:Option Addr} {slZ1t:Array (Option Value)} {fZ28:Addr} {ocZ28 kVZ28 dcZ28 pmZ28 cdZ28 ctZ28:Value} {odZ28 anZ28:Option Addr} {slZ28:Array (Option Value)} {fZ2o:Addr} {ocZ2o kVZ2o dcZ2o pmZ2o cdZ2o ctZ2o:Value} {odZ2o anZ2o:Option Addr} {slZ2o:Array (Option Value)}
  (g_SumError:W.nsIn K mainGlobals "SumError"=some (some (.ref c_SumError)))
  (g_NoNet:W.nsIn K mainGlobals "NoNet"=some (some (.ref c_NoNet)))
  (g_NoWorth:W.nsIn K mainGlobals "NoWorth"=some (some (.ref c_NoWorth)))
  (g_NoPlace:W.nsIn K mainGlobals "NoPlace"=some (some (.ref c_NoPlace)))
  (g_NoRoad:W.nsIn K mainGlobals "NoRoad"=some (some (.ref c_NoRoad)))
  (g_NoSteps:W.nsIn K mainGlobals "NoSteps"=some (some (.ref c_NoSteps)))
  (g_NoPick:W.nsIn K mainGlobals "NoPick"=some (some (.ref c_NoPick)))
  (g_NoSum:W.nsIn K mainGlobals "NoSum"=some (some (.ref c_NoSum)))
  (g_NoWay:W.nsIn K mainGlobals "NoWay"=some (some (.ref c_NoWay)))
  (g_Kind:W.nsIn K mainGlobals "Kind"=some (some (.ref c_Kind)))
  (g_Fewest:W.nsIn K mainGlobals "Fewest"=some (some (.ref c_Fewest)))
  (g_Widest:W.nsIn K mainGlobals "Widest"=some (some (.ref c_Widest)))
  (g_Counted:W.nsIn K mainGlobals "Counted"=some (some (.ref c_Counted)))
  (g_Likeliest:W.nsIn K mainGlobals "Likeliest"=some (some (.ref c_Likeliest)))
  (g_Chances:W.nsIn K mainGlobals "Chances"=some (some (.ref c_Chances)))
  (g_Musts:W.nsIn K mainGlobals "Musts"=some (some (.ref c_Musts)))
  (g_Rests:W.nsIn K mainGlobals "Rests"=some (some (.ref c_Rests)))
  (g_Net:W.nsIn K mainGlobals "Net"=some (some (.ref c_Net)))
  (g_WIDEST:W.nsIn K mainGlobals "WIDEST"=some (some (.int 1000000000 t_WIDEST)))
  (g_MOST_RESTS:W.nsIn K mainGlobals "MOST_RESTS"=some (some (.int 12 t_MOST_RESTS)))
  (g_MOST_PLACES:W.nsIn K mainGlobals "MOST_PLACES"=some (some (.int 8 t_MOST_PLACES)))
  (g_MOST_ROADS:W.nsIn K mainGlobals "MOST_ROADS"=some (some (.int 64 t_MOST_ROADS)))
  (g_MOST_STEPS:W.nsIn K mainGlobals "MOST_STEPS"=some (some (.int 40 t_MOST_STEPS)))
  (z_isinstance:W.nsIn K mainGlobals "isinstance"=some none)
  (z_len:W.nsIn K mainGlobals "len"=some none)
  (z_int:W.nsIn K mainGlobals "int"=some none)
  (z_tuple:W.nsIn K mainGlobals "tuple"=some none)
  (z_list:W.nsIn K mainGlobals "list"=some none)
  (z_ValueError:W.nsIn K mainGlobals "ValueError"=some none)
  (z_range:W.nsIn K mainGlobals "range"=some none)
  (z_min:W.nsIn K mainGlobals "min"=some none)
  (z_max:W.nsIn K mainGlobals "max"=some none)
  (z_enumerate:W.nsIn K mainGlobals "enumerate"=some none)
  (xo_NoNet:W.excIn K c_NoNet bmV "ValueError.__new__"=true)
  (xa_NoNet:(W.clsIn K c_NoNet).isSome=true)
  (xb_NoNet:W.findIn K (.ref c_NoNet) "__getattribute__"=some (some (.builtin "BaseException.__getattribute__")))
  (xc_NoNet:W.findIn K (.ref c_NoNet) "__getattr__"=some none)
  (xd_NoNet:W.findIn K (.ref c_NoNet) "__class__"=some (some (.builtin "object.__class__")))
  (xe_NoNet:W.subIn K (.ref c_NoNet) (.type "BaseException")=some true)
  (xf_NoNet:W.subIn K (.ref c_NoNet) (.type "object")=some true)
  (xm_NoNet_SumError:W.exmOne K (.ref c_NoNet) (.ref c_SumError)=some true)
  (kt_NoNet_NoPick:W.kitOne K (.ref c_NoNet) (.ref c_NoPick)=some false)
  (kt_NoNet_NoPlace:W.kitOne K (.ref c_NoNet) (.ref c_NoPlace)=some false)
  (kt_NoNet_NoRoad:W.kitOne K (.ref c_NoNet) (.ref c_NoRoad)=some false)
  (kt_NoNet_NoSteps:W.kitOne K (.ref c_NoNet) (.ref c_NoSteps)=some false)
  (kt_NoNet_NoSum:W.kitOne K (.ref c_NoNet) (.ref c_NoSum)=some false)
  (kt_NoNet_NoWay:W.kitOne K (.ref c_NoNet) (.ref c_NoWay)=some false)
  (kt_NoNet_NoWorth:W.kitOne K (.ref c_NoNet) (.ref c_NoWorth)=some false)
  (kt_NoNet_ValueError:W.kitOne K (.ref c_NoNet) (.type "ValueError")=some true)
  (xo_NoPick:W.excIn K c_NoPick bmV "ValueError.__new__"=true)
  (xa_NoPick:(W.clsIn K c_NoPick).isSome=true)
  (xb_NoPick:W.findIn K (.ref c_NoPick) "__getattribute__"=some (some (.builtin "BaseException.__getattribute__")))
  (xc_NoPick:W.findIn K (.ref c_NoPick) "__getattr__"=some none)
  (xd_NoPick:W.findIn K (.ref c_NoPick) "__class__"=some (some (.builtin "object.__class__")))
  (xe_NoPick:W.subIn K (.ref c_NoPick) (.type "BaseException")=some true)
  (xf_NoPick:W.subIn K (.ref c_NoPick) (.type "object")=some true)
  (xm_NoPick_SumError:W.exmOne K (.ref c_NoPick) (.ref c_SumError)=some true)
  (kt_NoPick_NoNet:W.kitOne K (.ref c_NoPick) (.ref c_NoNet)=some false)
  (kt_NoPick_NoPlace:W.kitOne K (.ref c_NoPick) (.ref c_NoPlace)=some false)
  (kt_NoPick_NoRoad:W.kitOne K (.ref c_NoPick) (.ref c_NoRoad)=some false)
  (kt_NoPick_NoSteps:W.kitOne K (.ref c_NoPick) (.ref c_NoSteps)=some false)
  (kt_NoPick_NoSum:W.kitOne K (.ref c_NoPick) (.ref c_NoSum)=some false)
  (kt_NoPick_NoWay:W.kitOne K (.ref c_NoPick) (.ref c_NoWay)=some false)
  (kt_NoPick_NoWorth:W.kitOne K (.ref c_NoPick) (.ref c_NoWorth)=some false)
  (kt_NoPick_ValueError:W.kitOne K (.ref c_NoPick) (.type "ValueError")=some true)
  (xo_NoPlace:W.excIn K c_NoPlace bmV "ValueError.__new__"=true)
  (xa_NoPlace:(W.clsIn K c_NoPlace).isSome=true)
  (xb_NoPlace:W.findIn K (.ref c_NoPlace) "__getattribute__"=some (some (.builtin "BaseException.__getattribute__")))
  (xc_NoPlace:W.findIn K (.ref c_NoPlace) "__getattr__"=some none)
  (xd_NoPlace:W.findIn K (.ref c_NoPlace) "__class__"=some (some (.builtin "object.__class__")))
  (xe_NoPlace:W.subIn K (.ref c_NoPlace) (.type "BaseException")=some true)
  (xf_NoPlace:W.subIn K (.ref c_NoPlace) (.type "object")=some true)
  (xm_NoPlace_SumError:W.exmOne K (.ref c_NoPlace) (.ref c_SumError)=some true)
  (kt_NoPlace_NoNet:W.kitOne K (.ref c_NoPlace) (.ref c_NoNet)=some false)
  (kt_NoPlace_NoPick:W.kitOne K (.ref c_NoPlace) (.ref c_NoPick)=some false)
  (kt_NoPlace_NoRoad:W.kitOne K (.ref c_NoPlace) (.ref c_NoRoad)=some false)
  (kt_NoPlace_NoSteps:W.kitOne K (.ref c_NoPlace) (.ref c_NoSteps)=some false)
  (kt_NoPlace_NoSum:W.kitOne K (.ref c_NoPlace) (.ref c_NoSum)=some false)
  (kt_NoPlace_NoWay:W.kitOne K (.ref c_NoPlace) (.ref c_NoWay)=some false)
  (kt_NoPlace_NoWorth:W.kitOne K (.ref c_NoPlace) (.ref c_NoWorth)=some false)
  (kt_NoPlace_ValueError:W.kitOne K (.ref c_NoPlace) (.type "ValueError")=some true)
  (xo_NoRoad:W.excIn K c_NoRoad bmV "ValueError.__new__"=true)
  (xa_NoRoad:(W.clsIn K c_NoRoad).isSome=true)
  (xb_NoRoad:W.findIn K (.ref c_NoRoad) "__getattribute__"=some (some (.builtin "BaseException.__getattribute__")))
  (xc_NoRoad:W.findIn K (.ref c_NoRoad) "__getattr__"=some none)
  (xd_NoRoad:W.findIn K (.ref c_NoRoad) "__class__"=some (some (.builtin "object.__class__")))
  (xe_NoRoad:W.subIn K (.ref c_NoRoad) (.type "BaseException")=some true)
  (xf_NoRoad:W.subIn K (.ref c_NoRoad) (.type "object")=some true)
  (xm_NoRoad_SumError:W.exmOne K (.ref c_NoRoad) (.ref c_SumError)=some true)
  (kt_NoRoad_NoNet:W.kitOne K (.ref c_NoRoad) (.ref c_NoNet)=some false)
  (kt_NoRoad_NoPick:W.kitOne K (.ref c_NoRoad) (.ref c_NoPick)=some false)
  (kt_NoRoad_NoPlace:W.kitOne K (.ref c_NoRoad) (.ref c_NoPlace)=some false)
  (kt_NoRoad_NoSteps:W.kitOne K (.ref c_NoRoad) (.ref c_NoSteps)=some false)
  (kt_NoRoad_NoSum:W.kitOne K (.ref c_NoRoad) (.ref c_NoSum)=some false)
  (kt_NoRoad_NoWay:W.kitOne K (.ref c_NoRoad) (.ref c_NoWay)=some false)
  (kt_NoRoad_NoWorth:W.kitOne K (.ref c_NoRoad) (.ref c_NoWorth)=some false)
  (kt_NoRoad_ValueError:W.kitOne K (.ref c_NoRoad) (.type "ValueError")=some true)
  (xo_NoSteps:W.excIn K c_NoSteps bmV "ValueError.__new__"=true)
  (xa_NoSteps:(W.clsIn K c_NoSteps).isSome=true)
  (xb_NoSteps:W.findIn K (.ref c_NoSteps) "__getattribute__"=some (some (.builtin "BaseException.__getattribute__")))
  (xc_NoSteps:W.findIn K (.ref c_NoSteps) "__getattr__"=some none)
  (xd_NoSteps:W.findIn K (.ref c_NoSteps) "__class__"=some (some (.builtin "object.__class__")))
  (xe_NoSteps:W.subIn K (.ref c_NoSteps) (.type "BaseException")=some true)
  (xf_NoSteps:W.subIn K (.ref c_NoSteps) (.type "object")=some true)
  (xm_NoSteps_SumError:W.exmOne K (.ref c_NoSteps) (.ref c_SumError)=some true)
  (kt_NoSteps_NoNet:W.kitOne K (.ref c_NoSteps) (.ref c_NoNet)=some false)
  (kt_NoSteps_NoPick:W.kitOne K (.ref c_NoSteps) (.ref c_NoPick)=some false)
  (kt_NoSteps_NoPlace:W.kitOne K (.ref c_NoSteps) (.ref c_NoPlace)=some false)
  (kt_NoSteps_NoRoad:W.kitOne K (.ref c_NoSteps) (.ref c_NoRoad)=some false)
  (kt_NoSteps_NoSum:W.kitOne K (.ref c_NoSteps) (.ref c_NoSum)=some false)
  (kt_NoSteps_NoWay:W.kitOne K (.ref c_NoSteps) (.ref c_NoWay)=some false)
  (kt_NoSteps_NoWorth:W.kitOne K (.ref c_NoSteps) (.ref c_NoWorth)=some false)
  (kt_NoSteps_ValueError:W.kitOne K (.ref c_NoSteps) (.type "ValueError")=some true)
  (xo_NoSum:W.excIn K c_NoSum bmV "ValueError.__new__"=true)
  (xa_NoSum:(W.clsIn K c_NoSum).isSome=true)
  (xb_NoSum:W.findIn K (.ref c_NoSum) "__getattribute__"=some (some (.builtin "BaseException.__getattribute__")))
  (xc_NoSum:W.findIn K (.ref c_NoSum) "__getattr__"=some none)
  (xd_NoSum:W.findIn K (.ref c_NoSum) "__class__"=some (some (.builtin "object.__class__")))
  (xe_NoSum:W.subIn K (.ref c_NoSum) (.type "BaseException")=some true)
  (xf_NoSum:W.subIn K (.ref c_NoSum) (.type "object")=some true)
  (xm_NoSum_SumError:W.exmOne K (.ref c_NoSum) (.ref c_SumError)=some true)
  (kt_NoSum_NoNet:W.kitOne K (.ref c_NoSum) (.ref c_NoNet)=some false)
  (kt_NoSum_NoPick:W.kitOne K (.ref c_NoSum) (.ref c_NoPick)=some false)
  (kt_NoSum_NoPlace:W.kitOne K (.ref c_NoSum) (.ref c_NoPlace)=some false)
  (kt_NoSum_NoRoad:W.kitOne K (.ref c_NoSum) (.ref c_NoRoad)=some false)
  (kt_NoSum_NoSteps:W.kitOne K (.ref c_NoSum) (.ref c_NoSteps)=some false)
  (kt_NoSum_NoWay:W.kitOne K (.ref c_NoSum) (.ref c_NoWay)=some false)
  (kt_NoSum_NoWorth:W.kitOne K (.ref c_NoSum) (.ref c_NoWorth)=some false)
  (kt_NoSum_ValueError:W.kitOne K (.ref c_NoSum) (.type "ValueError")=some true)
  (xo_NoWay:W.excIn K c_NoWay bmV "ValueError.__new__"=true)
  (xa_NoWay:(W.clsIn K c_NoWay).isSome=true)
  (xb_NoWay:W.findIn K (.ref c_NoWay) "__getattribute__"=some (some (.builtin "BaseException.__getattribute__")))
  (xc_NoWay:W.findIn K (.ref c_NoWay) "__getattr__"=some none)
  (xd_NoWay:W.findIn K (.ref c_NoWay) "__class__"=some (some (.builtin "object.__class__")))
  (xe_NoWay:W.subIn K (.ref c_NoWay) (.type "BaseException")=some true)
  (xf_NoWay:W.subIn K (.ref c_NoWay) (.type "object")=some true)
  (xm_NoWay_SumError:W.exmOne K (.ref c_NoWay) (.ref c_SumError)=some true)
  (kt_NoWay_NoNet:W.kitOne K (.ref c_NoWay) (.ref c_NoNet)=some false)
  (kt_NoWay_NoPick:W.kitOne K (.ref c_NoWay) (.ref c_NoPick)=some false)
  (kt_NoWay_NoPlace:W.kitOne K (.ref c_NoWay) (.ref c_NoPlace)=some false)
  (kt_NoWay_NoRoad:W.kitOne K (.ref c_NoWay) (.ref c_NoRoad)=some false)
  (kt_NoWay_NoSteps:W.kitOne K (.ref c_NoWay) (.ref c_NoSteps)=some false)
  (kt_NoWay_NoSum:W.kitOne K (.ref c_NoWay) (.ref c_NoSum)=some false)
  (kt_NoWay_NoWorth:W.kitOne K (.ref c_NoWay) (.ref c_NoWorth)=some false)
  (kt_NoWay_ValueError:W.kitOne K (.ref c_NoWay) (.type "ValueError")=some true)
  (xo_NoWorth:W.excIn K c_NoWorth bmV "ValueError.__new__"=true)
  (xa_NoWorth:(W.clsIn K c_NoWorth).isSome=true)
  (xb_NoWorth:W.findIn K (.ref c_NoWorth) "__getattribute__"=some (some (.builtin "BaseException.__getattribute__")))
  (xc_NoWorth:W.findIn K (.ref c_NoWorth) "__getattr__"=some none)
  (xd_NoWorth:W.findIn K (.ref c_NoWorth) "__class__"=some (some (.builtin "object.__class__")))
  (xe_NoWorth:W.subIn K (.ref c_NoWorth) (.type "BaseException")=some true)
  (xf_NoWorth:W.subIn K (.ref c_NoWorth) (.type "object")=some true)
  (xm_NoWorth_SumError:W.exmOne K (.ref c_NoWorth) (.ref c_SumError)=some true)
  (kt_NoWorth_NoNet:W.kitOne K (.ref c_NoWorth) (.ref c_NoNet)=some false)
  (kt_NoWorth_NoPick:W.kitOne K (.ref c_NoWorth) (.ref c_NoPick)=some false)
  (kt_NoWorth_NoPlace:W.kitOne K (.ref c_NoWorth) (.ref c_NoPlace)=some false)
  (kt_NoWorth_NoRoad:W.kitOne K (.ref c_NoWorth) (.ref c_NoRoad)=some false)
  (kt_NoWorth_NoSteps:W.kitOne K (.ref c_NoWorth) (.ref c_NoSteps)=some false)
  (kt_NoWorth_NoSum:W.kitOne K (.ref c_NoWorth) (.ref c_NoSum)=some false)
  (kt_NoWorth_NoWay:W.kitOne K (.ref c_NoWorth) (.ref c_NoWay)=some false)
  (kt_NoWorth_ValueError:W.kitOne K (.ref c_NoWorth) (.type "ValueError")=some true)
  (mk_Fewest:W.makesIn K c_Fewest=true)
  (in_Fewest:W.findIn K (.ref c_Fewest) "__init__"=some (some (.builtin "object.__init__")))
  (kp_Fewest:W.keepIn K (.ref c_Fewest)=true)
  (mk_Widest:W.makesIn K c_Widest=true)
  (in_Widest:W.findIn K (.ref c_Widest) "__init__"=some (some (.builtin "object.__init__")))
  (kp_Widest:W.keepIn K (.ref c_Widest)=true)
  (mk_Counted:W.makesIn K c_Counted=true)
  (in_Counted:W.findIn K (.ref c_Counted) "__init__"=some (some (.builtin "object.__init__")))
  (kp_Counted:W.keepIn K (.ref c_Counted)=true)
  (mk_Likeliest:W.makesIn K c_Likeliest=true)
  (in_Likeliest:W.findIn K (.ref c_Likeliest) "__init__"=some (some (.builtin "object.__init__")))
  (kp_Likeliest:W.keepIn K (.ref c_Likeliest)=true)
  (mk_Chances:W.makesIn K c_Chances=true)
  (in_Chances:W.findIn K (.ref c_Chances) "__init__"=some (some (.builtin "object.__init__")))
  (kp_Chances:W.keepIn K (.ref c_Chances)=true)
  (mk_Musts:W.makesIn K c_Musts=true)
  (in_Musts:W.findIn K (.ref c_Musts) "__init__"=some (some (.builtin "object.__init__")))
  (kp_Musts:W.keepIn K (.ref c_Musts)=true)
  (mk_Rests:W.makesIn K c_Rests=true)
  (kp_Rests:W.keepIn K (.ref c_Rests)=true)
  (na_Rests_m:W.findIn K (.ref c_Rests) "m"=some none)
  (mk_Net:W.makesIn K c_Net=true)
  (kp_Net:W.keepIn K (.ref c_Net)=true)
  (na_Net_own_kind:W.findIn K (.ref c_Net) "own_kind"=some none)
  (na_Net_how_many:W.findIn K (.ref c_Net) "how_many"=some none)
  (na_Net_own_roads:W.findIn K (.ref c_Net) "own_roads"=some none)
  (pg_Net:W.plainGet K c_Net Str.empty=true)
  (hd_Net:W.hasDictIn K c_Net=true)
  (po_Net:W.plainOver K c_Net=true)
  (sa_Net:W.findIn K (.ref c_Net) "__setattr__"=some (some (.builtin "object.__setattr__")))
  (pg_Fewest:W.plainGet K c_Fewest Str.empty=true)
  (hd_Fewest:W.hasDictIn K c_Fewest=true)
  (po_Fewest:W.plainOver K c_Fewest=true)
  (sa_Fewest:W.findIn K (.ref c_Fewest) "__setattr__"=some (some (.builtin "object.__setattr__")))
  (pg_Widest:W.plainGet K c_Widest Str.empty=true)
  (hd_Widest:W.hasDictIn K c_Widest=true)
  (po_Widest:W.plainOver K c_Widest=true)
  (sa_Widest:W.findIn K (.ref c_Widest) "__setattr__"=some (some (.builtin "object.__setattr__")))
  (pg_Counted:W.plainGet K c_Counted Str.empty=true)
  (hd_Counted:W.hasDictIn K c_Counted=true)
  (po_Counted:W.plainOver K c_Counted=true)
  (sa_Counted:W.findIn K (.ref c_Counted) "__setattr__"=some (some (.builtin "object.__setattr__")))
  (pg_Likeliest:W.plainGet K c_Likeliest Str.empty=true)
  (hd_Likeliest:W.hasDictIn K c_Likeliest=true)
  (po_Likeliest:W.plainOver K c_Likeliest=true)
  (sa_Likeliest:W.findIn K (.ref c_Likeliest) "__setattr__"=some (some (.builtin "object.__setattr__")))
  (pg_Chances:W.plainGet K c_Chances Str.empty=true)
  (hd_Chances:W.hasDictIn K c_Chances=true)
  (po_Chances:W.plainOver K c_Chances=true)
  (sa_Chances:W.findIn K (.ref c_Chances) "__setattr__"=some (some (.builtin "object.__setattr__")))
  (pg_Musts:W.plainGet K c_Musts Str.empty=true)
  (hd_Musts:W.hasDictIn K c_Musts=true)
  (po_Musts:W.plainOver K c_Musts=true)
  (sa_Musts:W.findIn K (.ref c_Musts) "__setattr__"=some (some (.builtin "object.__setattr__")))
  (pg_Rests:W.plainGet K c_Rests Str.empty=true)
  (hd_Rests:W.hasDictIn K c_Rests=true)
  (po_Rests:W.plainOver K c_Rests=true)
  (sa_Rests:W.findIn K (.ref c_Rests) "__setattr__"=some (some (.builtin "object.__setattr__")))
  (ia_Fewest:W.findIn K (.ref c_Fewest) "__class__"=some (some (.builtin "object.__class__")))
  (ib_Fewest:W.specialIn K (.builtin "object.__class__") "__get__"=some (some (.builtin "getset_descriptor.__get__")))
  (ic_Fewest:W.takesIn K (.builtin "object.__class__")=some true)
  (id_Fewest:W.mroIn K c_Fewest (.type "object")=some true)
  (ia_Widest:W.findIn K (.ref c_Widest) "__class__"=some (some (.builtin "object.__class__")))
  (ib_Widest:W.specialIn K (.builtin "object.__class__") "__get__"=some (some (.builtin "getset_descriptor.__get__")))
  (ic_Widest:W.takesIn K (.builtin "object.__class__")=some true)
  (id_Widest:W.mroIn K c_Widest (.type "object")=some true)
  (ia_Counted:W.findIn K (.ref c_Counted) "__class__"=some (some (.builtin "object.__class__")))
  (ib_Counted:W.specialIn K (.builtin "object.__class__") "__get__"=some (some (.builtin "getset_descriptor.__get__")))
  (ic_Counted:W.takesIn K (.builtin "object.__class__")=some true)
  (id_Counted:W.mroIn K c_Counted (.type "object")=some true)
  (ia_Likeliest:W.findIn K (.ref c_Likeliest) "__class__"=some (some (.builtin "object.__class__")))
  (ib_Likeliest:W.specialIn K (.builtin "object.__class__") "__get__"=some (some (.builtin "getset_descriptor.__get__")))
  (ic_Likeliest:W.takesIn K (.builtin "object.__class__")=some true)
  (id_Likeliest:W.mroIn K c_Likeliest (.type "object")=some true)
  (ia_Chances:W.findIn K (.ref c_Chances) "__class__"=some (some (.builtin "object.__class__")))
  (ib_Chances:W.specialIn K (.builtin "object.__class__") "__get__"=some (some (.builtin "getset_descriptor.__get__")))
  (ic_Chances:W.takesIn K (.builtin "object.__class__")=some true)
  (id_Chances:W.mroIn K c_Chances (.type "object")=some true)
  (ia_Musts:W.findIn K (.ref c_Musts) "__class__"=some (some (.builtin "object.__class__")))
  (ib_Musts:W.specialIn K (.builtin "object.__class__") "__get__"=some (some (.builtin "getset_descriptor.__get__")))
  (ic_Musts:W.takesIn K (.builtin "object.__class__")=some true)
  (id_Musts:W.mroIn K c_Musts (.type "object")=some true)
  (ia_Rests:W.findIn K (.ref c_Rests) "__class__"=some (some (.builtin "object.__class__")))
  (ib_Rests:W.specialIn K (.builtin "object.__class__") "__get__"=some (some (.builtin "getset_descriptor.__get__")))
  (ic_Rests:W.takesIn K (.builtin "object.__class__")=some true)
  (id_Rests:W.mroIn K c_Rests (.type "object")=some true)
  (kt_Fewest_Chances:W.kitOne K (.ref c_Fewest) (.ref c_Chances)=some false)
  (kt_Widest_Chances:W.kitOne K (.ref c_Widest) (.ref c_Chances)=some false)
  (kt_Counted_Chances:W.kitOne K (.ref c_Counted) (.ref c_Chances)=some false)
  (kt_Likeliest_Chances:W.kitOne K (.ref c_Likeliest) (.ref c_Chances)=some false)
  (kt_Chances_Chances:W.kitOne K (.ref c_Chances) (.ref c_Chances)=some true)
  (kt_Musts_Chances:W.kitOne K (.ref c_Musts) (.ref c_Chances)=some false)
  (kt_Rests_Chances:W.kitOne K (.ref c_Rests) (.ref c_Chances)=some false)
  (aZ2c:W.nsIn K mainGlobals "divisor"=some (some (.ref fZ2c)))
  (lZ2c:K.lookup fZ2c=some ⟨ocZ2c,odZ2c,.func (W.fnOf "divisor" "divisor" (defArgs (top 11)) (defBody (top 11)) (defScope (top 11)) .none kVZ2c dcZ2c pmZ2c anZ2c cdZ2c ctZ2c),slZ2c⟩)
  (cZ2c_:W.codeIn K cdZ2c "divisor"=true)
  (kZ2c:W.keepIn K (.ref fZ2c)=true)
  (aZ20:W.findIn K (.ref c_Rests) "__init__"=some (some (.ref fZ20)))
  (iZ20:W.isFn K (.ref fZ20)=true)
  (lZ20:K.lookup fZ20=some ⟨ocZ20,odZ20,.func (W.fnOf "__init__" "Rests.__init__" (defArgs (inClass (top 30) 0)) (defBody (inClass (top 30) 0)) (defScope (inClass (top 30) 0)) .none kVZ20 dcZ20 pmZ20 anZ20 cdZ20 ctZ20),slZ20⟩)
  (cZ20_:W.codeIn K cdZ20 "Rests.__init__"=true)
  (kZ20:W.keepIn K (.ref fZ20)=true)
  (aZ1h:W.nsIn K mainGlobals "_law_cell_at"=some (some (.ref fZ1h)))
  (lZ1h:K.lookup fZ1h=some ⟨ocZ1h,odZ1h,.func (W.fnOf "_law_cell_at" "_law_cell_at" (defArgs (top 59)) (defBody (top 59)) (defScope (top 59)) .none kVZ1h dcZ1h pmZ1h anZ1h cdZ1h ctZ1h),slZ1h⟩)
  (cZ1h_:W.codeIn K cdZ1h "_law_cell_at"=true)
  (kZ1h:W.keepIn K (.ref fZ1h)=true)
  (aZ2j:W.nsIn K mainGlobals "lowest"=some (some (.ref fZ2j)))
  (lZ2j:K.lookup fZ2j=some ⟨ocZ2j,odZ2j,.func (W.fnOf "lowest" "lowest" (defArgs (top 13)) (defBody (top 13)) (defScope (top 13)) .none kVZ2j dcZ2j pmZ2j anZ2j cdZ2j ctZ2j),slZ2j⟩)
  (cZ2j_:W.codeIn K cdZ2j "lowest"=true)
  (kZ2j:W.keepIn K (.ref fZ2j)=true)
  (aZ2m:W.nsIn K mainGlobals "added"=some (some (.ref fZ2m)))
  (lZ2m:K.lookup fZ2m=some ⟨ocZ2m,odZ2m,.func (W.fnOf "added" "added" (defArgs (top 14)) (defBody (top 14)) (defScope (top 14)) .none kVZ2m dcZ2m pmZ2m anZ2m cdZ2m ctZ2m),slZ2m⟩)
  (cZ2m_:W.codeIn K cdZ2m "added"=true)
  (kZ2m:W.keepIn K (.ref fZ2m)=true)
  (aZ1w:W.nsIn K mainGlobals "multiplied"=some (some (.ref fZ1w)))
  (lZ1w:K.lookup fZ1w=some ⟨ocZ1w,odZ1w,.func (W.fnOf "multiplied" "multiplied" (defArgs (top 15)) (defBody (top 15)) (defScope (top 15)) .none kVZ1w dcZ1w pmZ1w anZ1w cdZ1w ctZ1w),slZ1w⟩)
  (cZ1w_:W.codeIn K cdZ1w "multiplied"=true)
  (kZ1w:W.keepIn K (.ref fZ1w)=true)
  (aZ2h:W.nsIn K mainGlobals "greater"=some (some (.ref fZ2h)))
  (lZ2h:K.lookup fZ2h=some ⟨ocZ2h,odZ2h,.func (W.fnOf "greater" "greater" (defArgs (top 16)) (defBody (top 16)) (defScope (top 16)) .none kVZ2h dcZ2h pmZ2h anZ2h cdZ2h ctZ2h),slZ2h⟩)
  (cZ2h_:W.codeIn K cdZ2h "greater"=true)
  (kZ2h:W.keepIn K (.ref fZ2h)=true)
  (aZv:W.nsIn K mainGlobals "lacking_to_one"=some (some (.ref fZv)))
  (lZv:K.lookup fZv=some ⟨ocZv,odZv,.func (W.fnOf "lacking_to_one" "lacking_to_one" (defArgs (top 17)) (defBody (top 17)) (defScope (top 17)) .none kVZv dcZv pmZv anZv cdZv ctZv),slZv⟩)
  (cZv_:W.codeIn K cdZv "lacking_to_one"=true)
  (kZv:W.keepIn K (.ref fZv)=true)
  (aZ2i:W.nsIn K mainGlobals "raised"=some (some (.ref fZ2i)))
  (lZ2i:K.lookup fZ2i=some ⟨ocZ2i,odZ2i,.func (W.fnOf "raised" "raised" (defArgs (top 22)) (defBody (top 22)) (defScope (top 22)) .none kVZ2i dcZ2i pmZ2i anZ2i cdZ2i ctZ2i),slZ2i⟩)
  (cZ2i_:W.codeIn K cdZ2i "raised"=true)
  (kZ2i:W.keepIn K (.ref fZ2i)=true)
  (aZ1n:W.findIn K (.ref c_Fewest) "none"=some (some (.ref fZ1n)))
  (iZ1n:W.isFn K (.ref fZ1n)=true)
  (lZ1n:K.lookup fZ1n=some ⟨ocZ1n,odZ1n,.func (W.fnOf "none" "Fewest.none" (defArgs (inClass (top 24) 0)) (defBody (inClass (top 24) 0)) (defScope (inClass (top 24) 0)) .none kVZ1n dcZ1n pmZ1n anZ1n cdZ1n ctZ1n),slZ1n⟩)
  (cZ1n_:W.codeIn K cdZ1n "Fewest.none"=true)
  (kZ1n:W.keepIn K (.ref fZ1n)=true)
  (aZ1o:W.findIn K (.ref c_Widest) "none"=some (some (.ref fZ1o)))
  (iZ1o:W.isFn K (.ref fZ1o)=true)
  (lZ1o:K.lookup fZ1o=some ⟨ocZ1o,odZ1o,.func (W.fnOf "none" "Widest.none" (defArgs (inClass (top 25) 0)) (defBody (inClass (top 25) 0)) (defScope (inClass (top 25) 0)) .none kVZ1o dcZ1o pmZ1o anZ1o cdZ1o ctZ1o),slZ1o⟩)
  (cZ1o_:W.codeIn K cdZ1o "Widest.none"=true)
  (kZ1o:W.keepIn K (.ref fZ1o)=true)
  (aZ15:W.findIn K (.ref c_Counted) "none"=some (some (.ref fZ15)))
  (iZ15:W.isFn K (.ref fZ15)=true)
  (lZ15:K.lookup fZ15=some ⟨ocZ15,odZ15,.func (W.fnOf "none" "Counted.none" (defArgs (inClass (top 26) 0)) (defBody (inClass (top 26) 0)) (defScope (inClass (top 26) 0)) .none kVZ15 dcZ15 pmZ15 anZ15 cdZ15 ctZ15),slZ15⟩)
  (cZ15_:W.codeIn K cdZ15 "Counted.none"=true)
  (kZ15:W.keepIn K (.ref fZ15)=true)
  (aZn:W.findIn K (.ref c_Likeliest) "none"=some (some (.ref fZn)))
  (iZn:W.isFn K (.ref fZn)=true)
  (lZn:K.lookup fZn=some ⟨ocZn,odZn,.func (W.fnOf "none" "Likeliest.none" (defArgs (inClass (top 27) 0)) (defBody (inClass (top 27) 0)) (defScope (inClass (top 27) 0)) .none kVZn dcZn pmZn anZn cdZn ctZn),slZn⟩)
  (cZn_:W.codeIn K cdZn "Likeliest.none"=true)
  (kZn:W.keepIn K (.ref fZn)=true)
  (aZ17:W.findIn K (.ref c_Chances) "none"=some (some (.ref fZ17)))
  (iZ17:W.isFn K (.ref fZ17)=true)
  (lZ17:K.lookup fZ17=some ⟨ocZ17,odZ17,.func (W.fnOf "none" "Chances.none" (defArgs (inClass (top 28) 0)) (defBody (inClass (top 28) 0)) (defScope (inClass (top 28) 0)) .none kVZ17 dcZ17 pmZ17 anZ17 cdZ17 ctZ17),slZ17⟩)
  (cZ17_:W.codeIn K cdZ17 "Chances.none"=true)
  (kZ17:W.keepIn K (.ref fZ17)=true)
  (aZ1s:W.findIn K (.ref c_Musts) "none"=some (some (.ref fZ1s)))
  (iZ1s:W.isFn K (.ref fZ1s)=true)
  (lZ1s:K.lookup fZ1s=some ⟨ocZ1s,odZ1s,.func (W.fnOf "none" "Musts.none" (defArgs (inClass (top 29) 0)) (defBody (inClass (top 29) 0)) (defScope (inClass (top 29) 0)) .none kVZ1s dcZ1s pmZ1s anZ1s cdZ1s ctZ1s),slZ1s⟩)
  (cZ1s_:W.codeIn K cdZ1s "Musts.none"=true)
  (kZ1s:W.keepIn K (.ref fZ1s)=true)
  (aZ1z:W.findIn K (.ref c_Rests) "none"=some (some (.ref fZ1z)))
  (iZ1z:W.isFn K (.ref fZ1z)=true)
  (lZ1z:K.lookup fZ1z=some ⟨ocZ1z,odZ1z,.func (W.fnOf "none" "Rests.none" (defArgs (inClass (top 30) 1)) (defBody (inClass (top 30) 1)) (defScope (inClass (top 30) 1)) .none kVZ1z dcZ1z pmZ1z anZ1z cdZ1z ctZ1z),slZ1z⟩)
  (cZ1z_:W.codeIn K cdZ1z "Rests.none"=true)
  (kZ1z:W.keepIn K (.ref fZ1z)=true)
  (aZ1m:W.findIn K (.ref c_Fewest) "rest"=some (some (.ref fZ1m)))
  (iZ1m:W.isFn K (.ref fZ1m)=true)
  (lZ1m:K.lookup fZ1m=some ⟨ocZ1m,odZ1m,.func (W.fnOf "rest" "Fewest.rest" (defArgs (inClass (top 24) 1)) (defBody (inClass (top 24) 1)) (defScope (inClass (top 24) 1)) .none kVZ1m dcZ1m pmZ1m anZ1m cdZ1m ctZ1m),slZ1m⟩)
  (cZ1m_:W.codeIn K cdZ1m "Fewest.rest"=true)
  (kZ1m:W.keepIn K (.ref fZ1m)=true)
  (aZ1p:W.findIn K (.ref c_Widest) "rest"=some (some (.ref fZ1p)))
  (iZ1p:W.isFn K (.ref fZ1p)=true)
  (lZ1p:K.lookup fZ1p=some ⟨ocZ1p,odZ1p,.func (W.fnOf "rest" "Widest.rest" (defArgs (inClass (top 25) 1)) (defBody (inClass (top 25) 1)) (defScope (inClass (top 25) 1)) .none kVZ1p dcZ1p pmZ1p anZ1p cdZ1p ctZ1p),slZ1p⟩)
  (cZ1p_:W.codeIn K cdZ1p "Widest.rest"=true)
  (kZ1p:W.keepIn K (.ref fZ1p)=true)
  (aZ1d:W.findIn K (.ref c_Counted) "rest"=some (some (.ref fZ1d)))
  (iZ1d:W.isFn K (.ref fZ1d)=true)
  (lZ1d:K.lookup fZ1d=some ⟨ocZ1d,odZ1d,.func (W.fnOf "rest" "Counted.rest" (defArgs (inClass (top 26) 1)) (defBody (inClass (top 26) 1)) (defScope (inClass (top 26) 1)) .none kVZ1d dcZ1d pmZ1d anZ1d cdZ1d ctZ1d),slZ1d⟩)
  (cZ1d_:W.codeIn K cdZ1d "Counted.rest"=true)
  (kZ1d:W.keepIn K (.ref fZ1d)=true)
  (aZm:W.findIn K (.ref c_Likeliest) "rest"=some (some (.ref fZm)))
  (iZm:W.isFn K (.ref fZm)=true)
  (lZm:K.lookup fZm=some ⟨ocZm,odZm,.func (W.fnOf "rest" "Likeliest.rest" (defArgs (inClass (top 27) 1)) (defBody (inClass (top 27) 1)) (defScope (inClass (top 27) 1)) .none kVZm dcZm pmZm anZm cdZm ctZm),slZm⟩)
  (cZm_:W.codeIn K cdZm "Likeliest.rest"=true)
  (kZm:W.keepIn K (.ref fZm)=true)
  (aZ1b:W.findIn K (.ref c_Chances) "rest"=some (some (.ref fZ1b)))
  (iZ1b:W.isFn K (.ref fZ1b)=true)
  (lZ1b:K.lookup fZ1b=some ⟨ocZ1b,odZ1b,.func (W.fnOf "rest" "Chances.rest" (defArgs (inClass (top 28) 1)) (defBody (inClass (top 28) 1)) (defScope (inClass (top 28) 1)) .none kVZ1b dcZ1b pmZ1b anZ1b cdZ1b ctZ1b),slZ1b⟩)
  (cZ1b_:W.codeIn K cdZ1b "Chances.rest"=true)
  (kZ1b:W.keepIn K (.ref fZ1b)=true)
  (aZ1q:W.findIn K (.ref c_Musts) "rest"=some (some (.ref fZ1q)))
  (iZ1q:W.isFn K (.ref fZ1q)=true)
  (lZ1q:K.lookup fZ1q=some ⟨ocZ1q,odZ1q,.func (W.fnOf "rest" "Musts.rest" (defArgs (inClass (top 29) 1)) (defBody (inClass (top 29) 1)) (defScope (inClass (top 29) 1)) .none kVZ1q dcZ1q pmZ1q anZ1q cdZ1q ctZ1q),slZ1q⟩)
  (cZ1q_:W.codeIn K cdZ1q "Musts.rest"=true)
  (kZ1q:W.keepIn K (.ref fZ1q)=true)
  (aZ1r:W.findIn K (.ref c_Rests) "rest"=some (some (.ref fZ1r)))
  (iZ1r:W.isFn K (.ref fZ1r)=true)
  (lZ1r:K.lookup fZ1r=some ⟨ocZ1r,odZ1r,.func (W.fnOf "rest" "Rests.rest" (defArgs (inClass (top 30) 2)) (defBody (inClass (top 30) 2)) (defScope (inClass (top 30) 2)) .none kVZ1r dcZ1r pmZ1r anZ1r cdZ1r ctZ1r),slZ1r⟩)
  (cZ1r_:W.codeIn K cdZ1r "Rests.rest"=true)
  (kZ1r:W.keepIn K (.ref fZ1r)=true)
  (aZj:W.findIn K (.ref c_Fewest) "together"=some (some (.ref fZj)))
  (iZj:W.isFn K (.ref fZj)=true)
  (lZj:K.lookup fZj=some ⟨ocZj,odZj,.func (W.fnOf "together" "Fewest.together" (defArgs (inClass (top 24) 3)) (defBody (inClass (top 24) 3)) (defScope (inClass (top 24) 3)) .none kVZj dcZj pmZj anZj cdZj ctZj),slZj⟩)
  (cZj_:W.codeIn K cdZj "Fewest.together"=true)
  (kZj:W.keepIn K (.ref fZj)=true)
  (aZi:W.findIn K (.ref c_Widest) "together"=some (some (.ref fZi)))
  (iZi:W.isFn K (.ref fZi)=true)
  (lZi:K.lookup fZi=some ⟨ocZi,odZi,.func (W.fnOf "together" "Widest.together" (defArgs (inClass (top 25) 3)) (defBody (inClass (top 25) 3)) (defScope (inClass (top 25) 3)) .none kVZi dcZi pmZi anZi cdZi ctZi),slZi⟩)
  (cZi_:W.codeIn K cdZi "Widest.together"=true)
  (kZi:W.keepIn K (.ref fZi)=true)
  (aZb:W.findIn K (.ref c_Counted) "together"=some (some (.ref fZb)))
  (iZb:W.isFn K (.ref fZb)=true)
  (lZb:K.lookup fZb=some ⟨ocZb,odZb,.func (W.fnOf "together" "Counted.together" (defArgs (inClass (top 26) 3)) (defBody (inClass (top 26) 3)) (defScope (inClass (top 26) 3)) .none kVZb dcZb pmZb anZb cdZb ctZb),slZb⟩)
  (cZb_:W.codeIn K cdZb "Counted.together"=true)
  (kZb:W.keepIn K (.ref fZb)=true)
  (aZ8:W.findIn K (.ref c_Likeliest) "together"=some (some (.ref fZ8)))
  (iZ8:W.isFn K (.ref fZ8)=true)
  (lZ8:K.lookup fZ8=some ⟨ocZ8,odZ8,.func (W.fnOf "together" "Likeliest.together" (defArgs (inClass (top 27) 3)) (defBody (inClass (top 27) 3)) (defScope (inClass (top 27) 3)) .none kVZ8 dcZ8 pmZ8 anZ8 cdZ8 ctZ8),slZ8⟩)
  (cZ8_:W.codeIn K cdZ8 "Likeliest.together"=true)
  (kZ8:W.keepIn K (.ref fZ8)=true)
  (aZe:W.findIn K (.ref c_Chances) "together"=some (some (.ref fZe)))
  (iZe:W.isFn K (.ref fZe)=true)
  (lZe:K.lookup fZe=some ⟨ocZe,odZe,.func (W.fnOf "together" "Chances.together" (defArgs (inClass (top 28) 3)) (defBody (inClass (top 28) 3)) (defScope (inClass (top 28) 3)) .none kVZe dcZe pmZe anZe cdZe ctZe),slZe⟩)
  (cZe_:W.codeIn K cdZe "Chances.together"=true)
  (kZe:W.keepIn K (.ref fZe)=true)
  (aZo:W.findIn K (.ref c_Musts) "together"=some (some (.ref fZo)))
  (iZo:W.isFn K (.ref fZo)=true)
  (lZo:K.lookup fZo=some ⟨ocZo,odZo,.func (W.fnOf "together" "Musts.together" (defArgs (inClass (top 29) 3)) (defBody (inClass (top 29) 3)) (defScope (inClass (top 29) 3)) .none kVZo dcZo pmZo anZo cdZo ctZo),slZo⟩)
  (cZo_:W.codeIn K cdZo "Musts.together"=true)
  (kZo:W.keepIn K (.ref fZo)=true)
  (aZp:W.findIn K (.ref c_Rests) "together"=some (some (.ref fZp)))
  (iZp:W.isFn K (.ref fZp)=true)
  (lZp:K.lookup fZp=some ⟨ocZp,odZp,.func (W.fnOf "together" "Rests.together" (defArgs (inClass (top 30) 4)) (defBody (inClass (top 30) 4)) (defScope (inClass (top 30) 4)) .none kVZp dcZp pmZp anZp cdZp ctZp),slZp⟩)
  (cZp_:W.codeIn K cdZp "Rests.together"=true)
  (kZp:W.keepIn K (.ref fZp)=true)
  (aZy:W.findIn K (.ref c_Fewest) "behind"=some (some (.ref fZy)))
  (iZy:W.isFn K (.ref fZy)=true)
  (lZy:K.lookup fZy=some ⟨ocZy,odZy,.func (W.fnOf "behind" "Fewest.behind" (defArgs (inClass (top 24) 4)) (defBody (inClass (top 24) 4)) (defScope (inClass (top 24) 4)) .none kVZy dcZy pmZy anZy cdZy ctZy),slZy⟩)
  (cZy_:W.codeIn K cdZy "Fewest.behind"=true)
  (kZy:W.keepIn K (.ref fZy)=true)
  (aZz:W.findIn K (.ref c_Widest) "behind"=some (some (.ref fZz)))
  (iZz:W.isFn K (.ref fZz)=true)
  (lZz:K.lookup fZz=some ⟨ocZz,odZz,.func (W.fnOf "behind" "Widest.behind" (defArgs (inClass (top 25) 4)) (defBody (inClass (top 25) 4)) (defScope (inClass (top 25) 4)) .none kVZz dcZz pmZz anZz cdZz ctZz),slZz⟩)
  (cZz_:W.codeIn K cdZz "Widest.behind"=true)
  (kZz:W.keepIn K (.ref fZz)=true)
  (aZt:W.findIn K (.ref c_Counted) "behind"=some (some (.ref fZt)))
  (iZt:W.isFn K (.ref fZt)=true)
  (lZt:K.lookup fZt=some ⟨ocZt,odZt,.func (W.fnOf "behind" "Counted.behind" (defArgs (inClass (top 26) 4)) (defBody (inClass (top 26) 4)) (defScope (inClass (top 26) 4)) .none kVZt dcZt pmZt anZt cdZt ctZt),slZt⟩)
  (cZt_:W.codeIn K cdZt "Counted.behind"=true)
  (kZt:W.keepIn K (.ref fZt)=true)
  (aZ9:W.findIn K (.ref c_Likeliest) "behind"=some (some (.ref fZ9)))
  (iZ9:W.isFn K (.ref fZ9)=true)
  (lZ9:K.lookup fZ9=some ⟨ocZ9,odZ9,.func (W.fnOf "behind" "Likeliest.behind" (defArgs (inClass (top 27) 4)) (defBody (inClass (top 27) 4)) (defScope (inClass (top 27) 4)) .none kVZ9 dcZ9 pmZ9 anZ9 cdZ9 ctZ9),slZ9⟩)
  (cZ9_:W.codeIn K cdZ9 "Likeliest.behind"=true)
  (kZ9:W.keepIn K (.ref fZ9)=true)
  (aZu:W.findIn K (.ref c_Chances) "behind"=some (some (.ref fZu)))
  (iZu:W.isFn K (.ref fZu)=true)
  (lZu:K.lookup fZu=some ⟨ocZu,odZu,.func (W.fnOf "behind" "Chances.behind" (defArgs (inClass (top 28) 4)) (defBody (inClass (top 28) 4)) (defScope (inClass (top 28) 4)) .none kVZu dcZu pmZu anZu cdZu ctZu),slZu⟩)
  (cZu_:W.codeIn K cdZu "Chances.behind"=true)
  (kZu:W.keepIn K (.ref fZu)=true)
  (aZ14:W.findIn K (.ref c_Musts) "behind"=some (some (.ref fZ14)))
  (iZ14:W.isFn K (.ref fZ14)=true)
  (lZ14:K.lookup fZ14=some ⟨ocZ14,odZ14,.func (W.fnOf "behind" "Musts.behind" (defArgs (inClass (top 29) 4)) (defBody (inClass (top 29) 4)) (defScope (inClass (top 29) 4)) .none kVZ14 dcZ14 pmZ14 anZ14 cdZ14 ctZ14),slZ14⟩)
  (cZ14_:W.codeIn K cdZ14 "Musts.behind"=true)
  (kZ14:W.keepIn K (.ref fZ14)=true)
  (aZ1e:W.findIn K (.ref c_Rests) "behind"=some (some (.ref fZ1e)))
  (iZ1e:W.isFn K (.ref fZ1e)=true)
  (lZ1e:K.lookup fZ1e=some ⟨ocZ1e,odZ1e,.func (W.fnOf "behind" "Rests.behind" (defArgs (inClass (top 30) 5)) (defBody (inClass (top 30) 5)) (defScope (inClass (top 30) 5)) .none kVZ1e dcZ1e pmZ1e anZ1e cdZ1e ctZ1e),slZ1e⟩)
  (cZ1e_:W.codeIn K cdZ1e "Rests.behind"=true)
  (kZ1e:W.keepIn K (.ref fZ1e)=true)
  (aZ11:W.findIn K (.ref c_Fewest) "rounds"=some (some (.ref fZ11)))
  (iZ11:W.isFn K (.ref fZ11)=true)
  (lZ11:K.lookup fZ11=some ⟨ocZ11,odZ11,.func (W.fnOf "rounds" "Kind.rounds" (defArgs (inClass (top 23) 5)) (defBody (inClass (top 23) 5)) (defScope (inClass (top 23) 5)) .none kVZ11 dcZ11 pmZ11 anZ11 cdZ11 ctZ11),slZ11⟩)
  (cZ11_:W.codeIn K cdZ11 "Kind.rounds"=true)
  (kZ11:W.keepIn K (.ref fZ11)=true)
  (aZw:W.findIn K (.ref c_Widest) "rounds"=some (some (.ref fZw)))
  (iZw:W.isFn K (.ref fZw)=true)
  (lZw:K.lookup fZw=some ⟨ocZw,odZw,.func (W.fnOf "rounds" "Kind.rounds" (defArgs (inClass (top 23) 5)) (defBody (inClass (top 23) 5)) (defScope (inClass (top 23) 5)) .none kVZw dcZw pmZw anZw cdZw ctZw),slZw⟩)
  (cZw_:W.codeIn K cdZw "Kind.rounds"=true)
  (kZw:W.keepIn K (.ref fZw)=true)
  (aZr:W.findIn K (.ref c_Counted) "rounds"=some (some (.ref fZr)))
  (iZr:W.isFn K (.ref fZr)=true)
  (lZr:K.lookup fZr=some ⟨ocZr,odZr,.func (W.fnOf "rounds" "Counted.rounds" (defArgs (inClass (top 26) 5)) (defBody (inClass (top 26) 5)) (defScope (inClass (top 26) 5)) .none kVZr dcZr pmZr anZr cdZr ctZr),slZr⟩)
  (cZr_:W.codeIn K cdZr "Counted.rounds"=true)
  (kZr:W.keepIn K (.ref fZr)=true)
  (aZa:W.findIn K (.ref c_Likeliest) "rounds"=some (some (.ref fZa)))
  (iZa:W.isFn K (.ref fZa)=true)
  (lZa:K.lookup fZa=some ⟨ocZa,odZa,.func (W.fnOf "rounds" "Kind.rounds" (defArgs (inClass (top 23) 5)) (defBody (inClass (top 23) 5)) (defScope (inClass (top 23) 5)) .none kVZa dcZa pmZa anZa cdZa ctZa),slZa⟩)
  (cZa_:W.codeIn K cdZa "Kind.rounds"=true)
  (kZa:W.keepIn K (.ref fZa)=true)
  (aZs:W.findIn K (.ref c_Chances) "rounds"=some (some (.ref fZs)))
  (iZs:W.isFn K (.ref fZs)=true)
  (lZs:K.lookup fZs=some ⟨ocZs,odZs,.func (W.fnOf "rounds" "Chances.rounds" (defArgs (inClass (top 28) 5)) (defBody (inClass (top 28) 5)) (defScope (inClass (top 28) 5)) .none kVZs dcZs pmZs anZs cdZs ctZs),slZs⟩)
  (cZs_:W.codeIn K cdZs "Chances.rounds"=true)
  (kZs:W.keepIn K (.ref fZs)=true)
  (aZ19:W.findIn K (.ref c_Musts) "rounds"=some (some (.ref fZ19)))
  (iZ19:W.isFn K (.ref fZ19)=true)
  (lZ19:K.lookup fZ19=some ⟨ocZ19,odZ19,.func (W.fnOf "rounds" "Kind.rounds" (defArgs (inClass (top 23) 5)) (defBody (inClass (top 23) 5)) (defScope (inClass (top 23) 5)) .none kVZ19 dcZ19 pmZ19 anZ19 cdZ19 ctZ19),slZ19⟩)
  (cZ19_:W.codeIn K cdZ19 "Kind.rounds"=true)
  (kZ19:W.keepIn K (.ref fZ19)=true)
  (aZ18:W.findIn K (.ref c_Rests) "rounds"=some (some (.ref fZ18)))
  (iZ18:W.isFn K (.ref fZ18)=true)
  (lZ18:K.lookup fZ18=some ⟨ocZ18,odZ18,.func (W.fnOf "rounds" "Rests.rounds" (defArgs (inClass (top 30) 6)) (defBody (inClass (top 30) 6)) (defScope (inClass (top 30) 6)) .none kVZ18 dcZ18 pmZ18 anZ18 cdZ18 ctZ18),slZ18⟩)
  (cZ18_:W.codeIn K cdZ18 "Rests.rounds"=true)
  (kZ18:W.keepIn K (.ref fZ18)=true)
  (aZ2b:W.nsIn K mainGlobals "is_from"=some (some (.ref fZ2b)))
  (lZ2b:K.lookup fZ2b=some ⟨ocZ2b,odZ2b,.func (W.fnOf "is_from" "is_from" (defArgs (top 21)) (defBody (top 21)) (defScope (top 21)) .none kVZ2b dcZ2b pmZ2b anZ2b cdZ2b ctZ2b),slZ2b⟩)
  (cZ2b_:W.codeIn K cdZ2b "is_from"=true)
  (kZ2b:W.keepIn K (.ref fZ2b)=true)
  (aZ25:W.nsIn K mainGlobals "is_share"=some (some (.ref fZ25)))
  (lZ25:K.lookup fZ25=some ⟨ocZ25,odZ25,.func (W.fnOf "is_share" "is_share" (defArgs (top 12)) (defBody (top 12)) (defScope (top 12)) .none kVZ25 dcZ25 pmZ25 anZ25 cdZ25 ctZ25),slZ25⟩)
  (cZ25_:W.codeIn K cdZ25 "is_share"=true)
  (kZ25:W.keepIn K (.ref fZ25)=true)
  (aZh:W.findIn K (.ref c_Fewest) "is_worth"=some (some (.ref fZh)))
  (iZh:W.isFn K (.ref fZh)=true)
  (lZh:K.lookup fZh=some ⟨ocZh,odZh,.func (W.fnOf "is_worth" "Fewest.is_worth" (defArgs (inClass (top 24) 2)) (defBody (inClass (top 24) 2)) (defScope (inClass (top 24) 2)) .none kVZh dcZh pmZh anZh cdZh ctZh),slZh⟩)
  (cZh_:W.codeIn K cdZh "Fewest.is_worth"=true)
  (kZh:W.keepIn K (.ref fZh)=true)
  (aZk:W.findIn K (.ref c_Widest) "is_worth"=some (some (.ref fZk)))
  (iZk:W.isFn K (.ref fZk)=true)
  (lZk:K.lookup fZk=some ⟨ocZk,odZk,.func (W.fnOf "is_worth" "Widest.is_worth" (defArgs (inClass (top 25) 2)) (defBody (inClass (top 25) 2)) (defScope (inClass (top 25) 2)) .none kVZk dcZk pmZk anZk cdZk ctZk),slZk⟩)
  (cZk_:W.codeIn K cdZk "Widest.is_worth"=true)
  (kZk:W.keepIn K (.ref fZk)=true)
  (aZd:W.findIn K (.ref c_Counted) "is_worth"=some (some (.ref fZd)))
  (iZd:W.isFn K (.ref fZd)=true)
  (lZd:K.lookup fZd=some ⟨ocZd,odZd,.func (W.fnOf "is_worth" "Counted.is_worth" (defArgs (inClass (top 26) 2)) (defBody (inClass (top 26) 2)) (defScope (inClass (top 26) 2)) .none kVZd dcZd pmZd anZd cdZd ctZd),slZd⟩)
  (cZd_:W.codeIn K cdZd "Counted.is_worth"=true)
  (kZd:W.keepIn K (.ref fZd)=true)
  (aZ7:W.findIn K (.ref c_Likeliest) "is_worth"=some (some (.ref fZ7)))
  (iZ7:W.isFn K (.ref fZ7)=true)
  (lZ7:K.lookup fZ7=some ⟨ocZ7,odZ7,.func (W.fnOf "is_worth" "Likeliest.is_worth" (defArgs (inClass (top 27) 2)) (defBody (inClass (top 27) 2)) (defScope (inClass (top 27) 2)) .none kVZ7 dcZ7 pmZ7 anZ7 cdZ7 ctZ7),slZ7⟩)
  (cZ7_:W.codeIn K cdZ7 "Likeliest.is_worth"=true)
  (kZ7:W.keepIn K (.ref fZ7)=true)
  (aZc:W.findIn K (.ref c_Chances) "is_worth"=some (some (.ref fZc)))
  (iZc:W.isFn K (.ref fZc)=true)
  (lZc:K.lookup fZc=some ⟨ocZc,odZc,.func (W.fnOf "is_worth" "Chances.is_worth" (defArgs (inClass (top 28) 2)) (defBody (inClass (top 28) 2)) (defScope (inClass (top 28) 2)) .none kVZc dcZc pmZc anZc cdZc ctZc),slZc⟩)
  (cZc_:W.codeIn K cdZc "Chances.is_worth"=true)
  (kZc:W.keepIn K (.ref fZc)=true)
  (aZq:W.findIn K (.ref c_Musts) "is_worth"=some (some (.ref fZq)))
  (iZq:W.isFn K (.ref fZq)=true)
  (lZq:K.lookup fZq=some ⟨ocZq,odZq,.func (W.fnOf "is_worth" "Musts.is_worth" (defArgs (inClass (top 29) 2)) (defBody (inClass (top 29) 2)) (defScope (inClass (top 29) 2)) .none kVZq dcZq pmZq anZq cdZq ctZq),slZq⟩)
  (cZq_:W.codeIn K cdZq "Musts.is_worth"=true)
  (kZq:W.keepIn K (.ref fZq)=true)
  (aZl:W.findIn K (.ref c_Rests) "is_worth"=some (some (.ref fZl)))
  (iZl:W.isFn K (.ref fZl)=true)
  (lZl:K.lookup fZl=some ⟨ocZl,odZl,.func (W.fnOf "is_worth" "Rests.is_worth" (defArgs (inClass (top 30) 3)) (defBody (inClass (top 30) 3)) (defScope (inClass (top 30) 3)) .none kVZl dcZl pmZl anZl cdZl ctZl),slZl⟩)
  (cZl_:W.codeIn K cdZl "Rests.is_worth"=true)
  (kZl:W.keepIn K (.ref fZl)=true)
  (aZ10:W.nsIn K mainGlobals "check_numbers"=some (some (.ref fZ10)))
  (lZ10:K.lookup fZ10=some ⟨ocZ10,odZ10,.func (W.fnOf "check_numbers" "check_numbers" (defArgs (top 34)) (defBody (top 34)) (defScope (top 34)) .none kVZ10 dcZ10 pmZ10 anZ10 cdZ10 ctZ10),slZ10⟩)
  (cZ10_:W.codeIn K cdZ10 "check_numbers"=true)
  (kZ10:W.keepIn K (.ref fZ10)=true)
  (aZ1u:W.nsIn K mainGlobals "check_ends"=some (some (.ref fZ1u)))
  (lZ1u:K.lookup fZ1u=some ⟨ocZ1u,odZ1u,.func (W.fnOf "check_ends" "check_ends" (defArgs (top 35)) (defBody (top 35)) (defScope (top 35)) .none kVZ1u dcZ1u pmZ1u anZ1u cdZ1u ctZ1u),slZ1u⟩)
  (cZ1u_:W.codeIn K cdZ1u "check_ends"=true)
  (kZ1u:W.keepIn K (.ref fZ1u)=true)
  (aZ4:W.findIn K (.ref c_Fewest) "may_start_together"=some (some (.ref fZ4)))
  (iZ4:W.isFn K (.ref fZ4)=true)
  (lZ4:K.lookup fZ4=some ⟨ocZ4,odZ4,.func (W.fnOf "may_start_together" "Kind.may_start_together" (defArgs (inClass (top 23) 7)) (defBody (inClass (top 23) 7)) (defScope (inClass (top 23) 7)) .none kVZ4 dcZ4 pmZ4 anZ4 cdZ4 ctZ4),slZ4⟩)
  (cZ4_:W.codeIn K cdZ4 "Kind.may_start_together"=true)
  (kZ4:W.keepIn K (.ref fZ4)=true)
  (aZ3:W.findIn K (.ref c_Widest) "may_start_together"=some (some (.ref fZ3)))
  (iZ3:W.isFn K (.ref fZ3)=true)
  (lZ3:K.lookup fZ3=some ⟨ocZ3,odZ3,.func (W.fnOf "may_start_together" "Kind.may_start_together" (defArgs (inClass (top 23) 7)) (defBody (inClass (top 23) 7)) (defScope (inClass (top 23) 7)) .none kVZ3 dcZ3 pmZ3 anZ3 cdZ3 ctZ3),slZ3⟩)
  (cZ3_:W.codeIn K cdZ3 "Kind.may_start_together"=true)
  (kZ3:W.keepIn K (.ref fZ3)=true)
  (aZ2:W.findIn K (.ref c_Counted) "may_start_together"=some (some (.ref fZ2)))
  (iZ2:W.isFn K (.ref fZ2)=true)
  (lZ2:K.lookup fZ2=some ⟨ocZ2,odZ2,.func (W.fnOf "may_start_together" "Kind.may_start_together" (defArgs (inClass (top 23) 7)) (defBody (inClass (top 23) 7)) (defScope (inClass (top 23) 7)) .none kVZ2 dcZ2 pmZ2 anZ2 cdZ2 ctZ2),slZ2⟩)
  (cZ2_:W.codeIn K cdZ2 "Kind.may_start_together"=true)
  (kZ2:W.keepIn K (.ref fZ2)=true)
  (aZ0:W.findIn K (.ref c_Likeliest) "may_start_together"=some (some (.ref fZ0)))
  (iZ0:W.isFn K (.ref fZ0)=true)
  (lZ0:K.lookup fZ0=some ⟨ocZ0,odZ0,.func (W.fnOf "may_start_together" "Kind.may_start_together" (defArgs (inClass (top 23) 7)) (defBody (inClass (top 23) 7)) (defScope (inClass (top 23) 7)) .none kVZ0 dcZ0 pmZ0 anZ0 cdZ0 ctZ0),slZ0⟩)
  (cZ0_:W.codeIn K cdZ0 "Kind.may_start_together"=true)
  (kZ0:W.keepIn K (.ref fZ0)=true)
  (aZ1:W.findIn K (.ref c_Chances) "may_start_together"=some (some (.ref fZ1)))
  (iZ1:W.isFn K (.ref fZ1)=true)
  (lZ1:K.lookup fZ1=some ⟨ocZ1,odZ1,.func (W.fnOf "may_start_together" "Chances.may_start_together" (defArgs (inClass (top 28) 6)) (defBody (inClass (top 28) 6)) (defScope (inClass (top 28) 6)) .none kVZ1 dcZ1 pmZ1 anZ1 cdZ1 ctZ1),slZ1⟩)
  (cZ1_:W.codeIn K cdZ1 "Chances.may_start_together"=true)
  (kZ1:W.keepIn K (.ref fZ1)=true)
  (aZ6:W.findIn K (.ref c_Musts) "may_start_together"=some (some (.ref fZ6)))
  (iZ6:W.isFn K (.ref fZ6)=true)
  (lZ6:K.lookup fZ6=some ⟨ocZ6,odZ6,.func (W.fnOf "may_start_together" "Kind.may_start_together" (defArgs (inClass (top 23) 7)) (defBody (inClass (top 23) 7)) (defScope (inClass (top 23) 7)) .none kVZ6 dcZ6 pmZ6 anZ6 cdZ6 ctZ6),slZ6⟩)
  (cZ6_:W.codeIn K cdZ6 "Kind.may_start_together"=true)
  (kZ6:W.keepIn K (.ref fZ6)=true)
  (aZ5:W.findIn K (.ref c_Rests) "may_start_together"=some (some (.ref fZ5)))
  (iZ5:W.isFn K (.ref fZ5)=true)
  (lZ5:K.lookup fZ5=some ⟨ocZ5,odZ5,.func (W.fnOf "may_start_together" "Kind.may_start_together" (defArgs (inClass (top 23) 7)) (defBody (inClass (top 23) 7)) (defScope (inClass (top 23) 7)) .none kVZ5 dcZ5 pmZ5 anZ5 cdZ5 ctZ5),slZ5⟩)
  (cZ5_:W.codeIn K cdZ5 "Kind.may_start_together"=true)
  (kZ5:W.keepIn K (.ref fZ5)=true)
  (aZ13:W.nsIn K mainGlobals "check_starts"=some (some (.ref fZ13)))
  (lZ13:K.lookup fZ13=some ⟨ocZ13,odZ13,.func (W.fnOf "check_starts" "check_starts" (defArgs (top 36)) (defBody (top 36)) (defScope (top 36)) .none kVZ13 dcZ13 pmZ13 anZ13 cdZ13 ctZ13),slZ13⟩)
  (cZ13_:W.codeIn K cdZ13 "check_starts"=true)
  (kZ13:W.keepIn K (.ref fZ13)=true)
  (aZ16:W.nsIn K mainGlobals "check_worths"=some (some (.ref fZ16)))
  (lZ16:K.lookup fZ16=some ⟨ocZ16,odZ16,.func (W.fnOf "check_worths" "check_worths" (defArgs (top 37)) (defBody (top 37)) (defScope (top 37)) .none kVZ16 dcZ16 pmZ16 anZ16 cdZ16 ctZ16),slZ16⟩)
  (cZ16_:W.codeIn K cdZ16 "check_worths"=true)
  (kZ16:W.keepIn K (.ref fZ16)=true)
  (aZ27:W.findIn K (.ref c_Net) "__init__"=some (some (.ref fZ27)))
  (iZ27:W.isFn K (.ref fZ27)=true)
  (lZ27:K.lookup fZ27=some ⟨ocZ27,odZ27,.func (W.fnOf "__init__" "Net.__init__" (defArgs (inClass (top 39) 0)) (defBody (inClass (top 39) 0)) (defScope (inClass (top 39) 0)) .none kVZ27 dcZ27 pmZ27 anZ27 cdZ27 ctZ27),slZ27⟩)
  (cZ27_:W.codeIn K cdZ27 "Net.__init__"=true)
  (kZ27:W.keepIn K (.ref fZ27)=true)
  (aZ29:W.findIn K (.ref c_Net) "kind"=some (some (.ref fZ29)))
  (iZ29:W.isFn K (.ref fZ29)=true)
  (lZ29:K.lookup fZ29=some ⟨ocZ29,odZ29,.func (W.fnOf "kind" "Net.kind" (defArgs (inClass (top 39) 1)) (defBody (inClass (top 39) 1)) (defScope (inClass (top 39) 1)) .none kVZ29 dcZ29 pmZ29 anZ29 cdZ29 ctZ29),slZ29⟩)
  (cZ29_:W.codeIn K cdZ29 "Net.kind"=true)
  (kZ29:W.keepIn K (.ref fZ29)=true)
  (aZ1v:W.findIn K (.ref c_Net) "places"=some (some (.ref fZ1v)))
  (iZ1v:W.isFn K (.ref fZ1v)=true)
  (lZ1v:K.lookup fZ1v=some ⟨ocZ1v,odZ1v,.func (W.fnOf "places" "Net.places" (defArgs (inClass (top 39) 2)) (defBody (inClass (top 39) 2)) (defScope (inClass (top 39) 2)) .none kVZ1v dcZ1v pmZ1v anZ1v cdZ1v ctZ1v),slZ1v⟩)
  (cZ1v_:W.codeIn K cdZ1v "Net.places"=true)
  (kZ1v:W.keepIn K (.ref fZ1v)=true)
  (aZ21:W.findIn K (.ref c_Net) "roads"=some (some (.ref fZ21)))
  (iZ21:W.isFn K (.ref fZ21)=true)
  (lZ21:K.lookup fZ21=some ⟨ocZ21,odZ21,.func (W.fnOf "roads" "Net.roads" (defArgs (inClass (top 39) 3)) (defBody (inClass (top 39) 3)) (defScope (inClass (top 39) 3)) .none kVZ21 dcZ21 pmZ21 anZ21 cdZ21 ctZ21),slZ21⟩)
  (cZ21_:W.codeIn K cdZ21 "Net.roads"=true)
  (kZ21:W.keepIn K (.ref fZ21)=true)
  (aZ1l:W.nsIn K mainGlobals "check_place"=some (some (.ref fZ1l)))
  (lZ1l:K.lookup fZ1l=some ⟨ocZ1l,odZ1l,.func (W.fnOf "check_place" "check_place" (defArgs (top 38)) (defBody (top 38)) (defScope (top 38)) .none kVZ1l dcZ1l pmZ1l anZ1l cdZ1l ctZ1l),slZ1l⟩)
  (cZ1l_:W.codeIn K cdZ1l "check_place"=true)
  (kZ1l:W.keepIn K (.ref fZ1l)=true)
  (aZ24:W.nsIn K mainGlobals "worth_of"=some (some (.ref fZ24)))
  (lZ24:K.lookup fZ24=some ⟨ocZ24,odZ24,.func (W.fnOf "worth_of" "worth_of" (defArgs (top 42)) (defBody (top 42)) (defScope (top 42)) .none kVZ24 dcZ24 pmZ24 anZ24 cdZ24 ctZ24),slZ24⟩)
  (cZ24_:W.codeIn K cdZ24 "worth_of"=true)
  (kZ24:W.keepIn K (.ref fZ24)=true)
  (aZ26:W.nsIn K mainGlobals "straight"=some (some (.ref fZ26)))
  (lZ26:K.lookup fZ26=some ⟨ocZ26,odZ26,.func (W.fnOf "straight" "straight" (defArgs (top 47)) (defBody (top 47)) (defScope (top 47)) .none kVZ26 dcZ26 pmZ26 anZ26 cdZ26 ctZ26),slZ26⟩)
  (cZ26_:W.codeIn K cdZ26 "straight"=true)
  (kZ26:W.keepIn K (.ref fZ26)=true)
  (aZ1j:W.nsIn K mainGlobals "led_through"=some (some (.ref fZ1j)))
  (lZ1j:K.lookup fZ1j=some ⟨ocZ1j,odZ1j,.func (W.fnOf "led_through" "led_through" (defArgs (top 48)) (defBody (top 48)) (defScope (top 48)) .none kVZ1j dcZ1j pmZ1j anZ1j cdZ1j ctZ1j),slZ1j⟩)
  (cZ1j_:W.codeIn K cdZ1j "led_through"=true)
  (kZ1j:W.keepIn K (.ref fZ1j)=true)
  (aZ2k:W.nsIn K mainGlobals "table"=some (some (.ref fZ2k)))
  (lZ2k:K.lookup fZ2k=some ⟨ocZ2k,odZ2k,.func (W.fnOf "table" "table" (defArgs (top 49)) (defBody (top 49)) (defScope (top 49)) .none kVZ2k dcZ2k pmZ2k anZ2k cdZ2k ctZ2k),slZ2k⟩)
  (cZ2k_:W.codeIn K cdZ2k "table"=true)
  (kZ2k:W.keepIn K (.ref fZ2k)=true)
  (aZ2d:W.nsIn K mainGlobals "betters"=some (some (.ref fZ2d)))
  (lZ2d:K.lookup fZ2d=some ⟨ocZ2d,odZ2d,.func (W.fnOf "betters" "betters" (defArgs (top 56)) (defBody (top 56)) (defScope (top 56)) .none kVZ2d dcZ2d pmZ2d anZ2d cdZ2d ctZ2d),slZ2d⟩)
  (cZ2d_:W.codeIn K cdZ2d "betters"=true)
  (kZ2d:W.keepIn K (.ref fZ2d)=true)
  (aZ1x:W.nsIn K mainGlobals "best_place"=some (some (.ref fZ1x)))
  (lZ1x:K.lookup fZ1x=some ⟨ocZ1x,odZ1x,.func (W.fnOf "best_place" "best_place" (defArgs (top 55)) (defBody (top 55)) (defScope (top 55)) .none kVZ1x dcZ1x pmZ1x anZ1x cdZ1x ctZ1x),slZ1x⟩)
  (cZ1x_:W.codeIn K cdZ1x "best_place"=true)
  (kZ1x:W.keepIn K (.ref fZ1x)=true)
  (aZ2l:W.nsIn K mainGlobals "offer"=some (some (.ref fZ2l)))
  (lZ2l:K.lookup fZ2l=some ⟨ocZ2l,odZ2l,.func (W.fnOf "offer" "offer" (defArgs (top 57)) (defBody (top 57)) (defScope (top 57)) .none kVZ2l dcZ2l pmZ2l anZ2l cdZ2l ctZ2l),slZ2l⟩)
  (cZ2l_:W.codeIn K cdZ2l "offer"=true)
  (kZ2l:W.keepIn K (.ref fZ2l)=true)
  (aZ23:W.nsIn K mainGlobals "best_ways"=some (some (.ref fZ23)))
  (lZ23:K.lookup fZ23=some ⟨ocZ23,odZ23,.func (W.fnOf "best_ways" "best_ways" (defArgs (top 54)) (defBody (top 54)) (defScope (top 54)) .none kVZ23 dcZ23 pmZ23 anZ23 cdZ23 ctZ23),slZ23⟩)
  (cZ23_:W.codeIn K cdZ23 "best_ways"=true)
  (kZ23:W.keepIn K (.ref fZ23)=true)
  (aZ1c:W.findIn K (.ref c_Fewest) "picks"=some (some (.ref fZ1c)))
  (iZ1c:W.isFn K (.ref fZ1c)=true)
  (lZ1c:K.lookup fZ1c=some ⟨ocZ1c,odZ1c,.func (W.fnOf "picks" "Fewest.picks" (defArgs (inClass (top 24) 5)) (defBody (inClass (top 24) 5)) (defScope (inClass (top 24) 5)) .none kVZ1c dcZ1c pmZ1c anZ1c cdZ1c ctZ1c),slZ1c⟩)
  (cZ1c_:W.codeIn K cdZ1c "Fewest.picks"=true)
  (kZ1c:W.keepIn K (.ref fZ1c)=true)
  (aZ1g:W.findIn K (.ref c_Widest) "picks"=some (some (.ref fZ1g)))
  (iZ1g:W.isFn K (.ref fZ1g)=true)
  (lZ1g:K.lookup fZ1g=some ⟨ocZ1g,odZ1g,.func (W.fnOf "picks" "Widest.picks" (defArgs (inClass (top 25) 5)) (defBody (inClass (top 25) 5)) (defScope (inClass (top 25) 5)) .none kVZ1g dcZ1g pmZ1g anZ1g cdZ1g ctZ1g),slZ1g⟩)
  (cZ1g_:W.codeIn K cdZ1g "Widest.picks"=true)
  (kZ1g:W.keepIn K (.ref fZ1g)=true)
  (aZx:W.findIn K (.ref c_Counted) "picks"=some (some (.ref fZx)))
  (iZx:W.isFn K (.ref fZx)=true)
  (lZx:K.lookup fZx=some ⟨ocZx,odZx,.func (W.fnOf "picks" "Kind.picks" (defArgs (inClass (top 23) 6)) (defBody (inClass (top 23) 6)) (defScope (inClass (top 23) 6)) .none kVZx dcZx pmZx anZx cdZx ctZx),slZx⟩)
  (cZx_:W.codeIn K cdZx "Kind.picks"=true)
  (kZx:W.keepIn K (.ref fZx)=true)
  (aZf:W.findIn K (.ref c_Likeliest) "picks"=some (some (.ref fZf)))
  (iZf:W.isFn K (.ref fZf)=true)
  (lZf:K.lookup fZf=some ⟨ocZf,odZf,.func (W.fnOf "picks" "Likeliest.picks" (defArgs (inClass (top 27) 5)) (defBody (inClass (top 27) 5)) (defScope (inClass (top 27) 5)) .none kVZf dcZf pmZf anZf cdZf ctZf),slZf⟩)
  (cZf_:W.codeIn K cdZf "Likeliest.picks"=true)
  (kZf:W.keepIn K (.ref fZf)=true)
  (aZ12:W.findIn K (.ref c_Chances) "picks"=some (some (.ref fZ12)))
  (iZ12:W.isFn K (.ref fZ12)=true)
  (lZ12:K.lookup fZ12=some ⟨ocZ12,odZ12,.func (W.fnOf "picks" "Kind.picks" (defArgs (inClass (top 23) 6)) (defBody (inClass (top 23) 6)) (defScope (inClass (top 23) 6)) .none kVZ12 dcZ12 pmZ12 anZ12 cdZ12 ctZ12),slZ12⟩)
  (cZ12_:W.codeIn K cdZ12 "Kind.picks"=true)
  (kZ12:W.keepIn K (.ref fZ12)=true)
  (aZ1k:W.findIn K (.ref c_Musts) "picks"=some (some (.ref fZ1k)))
  (iZ1k:W.isFn K (.ref fZ1k)=true)
  (lZ1k:K.lookup fZ1k=some ⟨ocZ1k,odZ1k,.func (W.fnOf "picks" "Kind.picks" (defArgs (inClass (top 23) 6)) (defBody (inClass (top 23) 6)) (defScope (inClass (top 23) 6)) .none kVZ1k dcZ1k pmZ1k anZ1k cdZ1k ctZ1k),slZ1k⟩)
  (cZ1k_:W.codeIn K cdZ1k "Kind.picks"=true)
  (kZ1k:W.keepIn K (.ref fZ1k)=true)
  (aZ1i:W.findIn K (.ref c_Rests) "picks"=some (some (.ref fZ1i)))
  (iZ1i:W.isFn K (.ref fZ1i)=true)
  (lZ1i:K.lookup fZ1i=some ⟨ocZ1i,odZ1i,.func (W.fnOf "picks" "Kind.picks" (defArgs (inClass (top 23) 6)) (defBody (inClass (top 23) 6)) (defScope (inClass (top 23) 6)) .none kVZ1i dcZ1i pmZ1i anZ1i cdZ1i ctZ1i),slZ1i⟩)
  (cZ1i_:W.codeIn K cdZ1i "Kind.picks"=true)
  (kZ1i:W.keepIn K (.ref fZ1i)=true)
  (aZ2e:W.nsIn K mainGlobals "way_for"=some (some (.ref fZ2e)))
  (lZ2e:K.lookup fZ2e=some ⟨ocZ2e,odZ2e,.func (W.fnOf "way_for" "way_for" (defArgs (top 53)) (defBody (top 53)) (defScope (top 53)) .none kVZ2e dcZ2e pmZ2e anZ2e cdZ2e ctZ2e),slZ2e⟩)
  (cZ2e_:W.codeIn K cdZ2e "way_for"=true)
  (kZ2e:W.keepIn K (.ref fZ2e)=true)
  (aZ2f:W.nsIn K mainGlobals "stepped"=some (some (.ref fZ2f)))
  (lZ2f:K.lookup fZ2f=some ⟨ocZ2f,odZ2f,.func (W.fnOf "stepped" "stepped" (defArgs (top 44)) (defBody (top 44)) (defScope (top 44)) .none kVZ2f dcZ2f pmZ2f anZ2f cdZ2f ctZ2f),slZ2f⟩)
  (cZ2f_:W.codeIn K cdZ2f "stepped"=true)
  (kZ2f:W.keepIn K (.ref fZ2f)=true)
  (aZg:W.nsIn K mainGlobals "chance_by_steps"=some (some (.ref fZg)))
  (lZg:K.lookup fZg=some ⟨ocZg,odZg,.func (W.fnOf "chance_by_steps" "chance_by_steps" (defArgs (top 45)) (defBody (top 45)) (defScope (top 45)) .none kVZg dcZg pmZg anZg cdZg ctZg),slZg⟩)
  (cZg_:W.codeIn K cdZg "chance_by_steps"=true)
  (kZg:W.keepIn K (.ref fZg)=true)
  (aZ2a:W.nsIn K mainGlobals "by_steps"=some (some (.ref fZ2a)))
  (lZ2a:K.lookup fZ2a=some ⟨ocZ2a,odZ2a,.func (W.fnOf "by_steps" "by_steps" (defArgs (top 43)) (defBody (top 43)) (defScope (top 43)) .none kVZ2a dcZ2a pmZ2a anZ2a cdZ2a ctZ2a),slZ2a⟩)
  (cZ2a_:W.codeIn K cdZ2a "by_steps"=true)
  (kZ2a:W.keepIn K (.ref fZ2a)=true)
  (aZ2n:W.nsIn K mainGlobals "total"=some (some (.ref fZ2n)))
  (lZ2n:K.lookup fZ2n=some ⟨ocZ2n,odZ2n,.func (W.fnOf "total" "total" (defArgs (top 50)) (defBody (top 50)) (defScope (top 50)) .none kVZ2n dcZ2n pmZ2n anZ2n cdZ2n ctZ2n),slZ2n⟩)
  (cZ2n_:W.codeIn K cdZ2n "total"=true)
  (kZ2n:W.keepIn K (.ref fZ2n)=true)
  (aZ2g:W.nsIn K mainGlobals "without"=some (some (.ref fZ2g)))
  (lZ2g:K.lookup fZ2g=some ⟨ocZ2g,odZ2g,.func (W.fnOf "without" "without" (defArgs (top 51)) (defBody (top 51)) (defScope (top 51)) .none kVZ2g dcZ2g pmZ2g anZ2g cdZ2g ctZ2g),slZ2g⟩)
  (cZ2g_:W.codeIn K cdZ2g "without"=true)
  (kZ2g:W.keepIn K (.ref fZ2g)=true)
  (aZ22:W.nsIn K mainGlobals "_law_which"=some (some (.ref fZ22)))
  (lZ22:K.lookup fZ22=some ⟨ocZ22,odZ22,.func (W.fnOf "_law_which" "_law_which" (defArgs (top 60)) (defBody (top 60)) (defScope (top 60)) .none kVZ22 dcZ22 pmZ22 anZ22 cdZ22 ctZ22),slZ22⟩)
  (cZ22_:W.codeIn K cdZ22 "_law_which"=true)
  (kZ22:W.keepIn K (.ref fZ22)=true)
  (aZ1y:W.nsIn K mainGlobals "_law_no_net"=some (some (.ref fZ1y)))
  (lZ1y:K.lookup fZ1y=some ⟨ocZ1y,odZ1y,.func (W.fnOf "_law_no_net" "_law_no_net" (defArgs (top 61)) (defBody (top 61)) (defScope (top 61)) .none kVZ1y dcZ1y pmZ1y anZ1y cdZ1y ctZ1y),slZ1y⟩)
  (cZ1y_:W.codeIn K cdZ1y "_law_no_net"=true)
  (kZ1y:W.keepIn K (.ref fZ1y)=true)
  (aZ1a:W.nsIn K mainGlobals "_law_no_worth"=some (some (.ref fZ1a)))
  (lZ1a:K.lookup fZ1a=some ⟨ocZ1a,odZ1a,.func (W.fnOf "_law_no_worth" "_law_no_worth" (defArgs (top 62)) (defBody (top 62)) (defScope (top 62)) .none kVZ1a dcZ1a pmZ1a anZ1a cdZ1a ctZ1a),slZ1a⟩)
  (cZ1a_:W.codeIn K cdZ1a "_law_no_worth"=true)
  (kZ1a:W.keepIn K (.ref fZ1a)=true)
  (aZ1f:W.nsIn K mainGlobals "_law_no_place"=some (some (.ref fZ1f)))
  (lZ1f:K.lookup fZ1f=some ⟨ocZ1f,odZ1f,.func (W.fnOf "_law_no_place" "_law_no_place" (defArgs (top 63)) (defBody (top 63)) (defScope (top 63)) .none kVZ1f dcZ1f pmZ1f anZ1f cdZ1f ctZ1f),slZ1f⟩)
  (cZ1f_:W.codeIn K cdZ1f "_law_no_place"=true)
  (kZ1f:W.keepIn K (.ref fZ1f)=true)
  (aZ1t:W.nsIn K mainGlobals "_law_no_sum"=some (some (.ref fZ1t)))
  (lZ1t:K.lookup fZ1t=some ⟨ocZ1t,odZ1t,.func (W.fnOf "_law_no_sum" "_law_no_sum" (defArgs (top 64)) (defBody (top 64)) (defScope (top 64)) .none kVZ1t dcZ1t pmZ1t anZ1t cdZ1t ctZ1t),slZ1t⟩)
  (cZ1t_:W.codeIn K cdZ1t "_law_no_sum"=true)
  (kZ1t:W.keepIn K (.ref fZ1t)=true)
  (aZ28:W.nsIn K mainGlobals "_law_done"=some (some (.ref fZ28)))
  (lZ28:K.lookup fZ28=some ⟨ocZ28,odZ28,.func (W.fnOf "_law_done" "_law_done" (defArgs (top 65)) (defBody (top 65)) (defScope (top 65)) .none kVZ28 dcZ28 pmZ28 anZ28 cdZ28 ctZ28),slZ28⟩)
  (cZ28_:W.codeIn K cdZ28 "_law_done"=true)
  (kZ28:W.keepIn K (.ref fZ28)=true)
  (aZ2o:W.nsIn K mainGlobals "law"=some (some (.ref fZ2o)))
  (lZ2o:K.lookup fZ2o=some ⟨ocZ2o,odZ2o,.func (W.fnOf "law" "law" (defArgs (top 66)) (defBody (top 66)) (defScope (top 66)) .none kVZ2o dcZ2o pmZ2o anZ2o cdZ2o ctZ2o),slZ2o⟩)
  (cZ2o_:W.codeIn K cdZ2o "law"=true)
  (kZ2o:W.keepIn K (.ref fZ2o)=true) :
  ∃ fd:FuncData,(∀ (s:Shared) (v:Value),BindsTo s fd ⟨[v],[]⟩ [("script",v)])∧∀ base:Heap,K.In base→base.Ns mainGlobals mg→FnOk l.prog w K mg base (CXE l.prog w) 43 fa fd ["script"] (spLaw K):=by
 have e:=hfa.symm.trans (W.mg_of X G aZ2o)
 cases e
 refine ⟨W.fnOf "law" "law" (defArgs (top 66)) (defBody (top 66)) (defScope (top 66)) .none kVZ2o dcZ2o pmZ2o anZ2o cdZ2o ctZ2o,fun s v=>.of_eq rfl,fun base _ _=>?_⟩
 have F_law:=fun_mk (st:=(top 66)) lZ2o cZ2o_ kZ2o
 let a:Adr:=⟨c_SumError,c_NoNet,c_NoWorth,c_NoPlace,c_NoRoad,c_NoSteps,c_NoPick,c_NoSum,c_NoWay,c_Kind,c_Fewest,c_Widest,c_Counted,c_Likeliest,c_Chances,c_Musts,c_Rests,c_Net,t_WIDEST,t_MOST_RESTS,t_MOST_PLACES,t_MOST_ROADS,t_MOST_STEPS⟩
 have T:Tx K mg a:=⟨W.mg_none_of X G z_isinstance,
  W.mg_none_of X G z_len,
  W.mg_none_of X G z_int,
  W.mg_none_of X G z_tuple,
  W.mg_none_of X G z_list,
  W.mg_none_of X G z_ValueError,
  W.mg_none_of X G z_range,
  W.mg_none_of X G z_min,
  W.mg_none_of X G z_max,
  W.mg_none_of X G z_enumerate,
  W.mg_of X G g_WIDEST,
  W.mg_of X G g_MOST_RESTS,
  W.mg_of X G g_MOST_PLACES,
  W.mg_of X G g_MOST_ROADS,
  W.mg_of X G g_MOST_STEPS,
  W.mg_of X G g_SumError,
  W.mg_of X G g_NoNet,
  W.mg_of X G g_NoWorth,
  W.mg_of X G g_NoPlace,
  W.mg_of X G g_NoRoad,
  W.mg_of X G g_NoSteps,
  W.mg_of X G g_NoPick,
  W.mg_of X G g_NoSum,
  W.mg_of X G g_NoWay,
  W.mg_of X G g_Kind,
  W.mg_of X G g_Fewest,
  W.mg_of X G g_Widest,
  W.mg_of X G g_Counted,
  W.mg_of X G g_Likeliest,
  W.mg_of X G g_Chances,
  W.mg_of X G g_Musts,
  W.mg_of X G g_Rests,
  W.mg_of X G g_Net,
  W.mg_of X G g_SumError,
  ⟨W.mg_of X G g_NoNet,xo_NoNet⟩,
  ⟨xa_NoNet,xb_NoNet,xc_NoNet,xd_NoNet,xe_NoNet,xf_NoNet⟩,
  xm_NoNet_SumError,
  kt_NoNet_NoPick,
  kt_NoNet_NoPlace,
  kt_NoNet_NoRoad,
  kt_NoNet_NoSteps,
  kt_NoNet_NoSum,
  kt_NoNet_NoWay,
  kt_NoNet_NoWorth,
  kt_NoNet_ValueError,
  ⟨W.mg_of X G g_NoPick,xo_NoPick⟩,
  ⟨xa_NoPick,xb_NoPick,xc_NoPick,xd_NoPick,xe_NoPick,xf_NoPick⟩,
  xm_NoPick_SumError,
  kt_NoPick_NoNet,
  kt_NoPick_NoPlace,
  kt_NoPick_NoRoad,
  kt_NoPick_NoSteps,
  kt_NoPick_NoSum,
  kt_NoPick_NoWay,
  kt_NoPick_NoWorth,
  kt_NoPick_ValueError,
  ⟨W.mg_of X G g_NoPlace,xo_NoPlace⟩,
  ⟨xa_NoPlace,xb_NoPlace,xc_NoPlace,xd_NoPlace,xe_NoPlace,xf_NoPlace⟩,
  xm_NoPlace_SumError,
  kt_NoPlace_NoNet,
  kt_NoPlace_NoPick,
  kt_NoPlace_NoRoad,
  kt_NoPlace_NoSteps,
  kt_NoPlace_NoSum,
  kt_NoPlace_NoWay,
  kt_NoPlace_NoWorth,
  kt_NoPlace_ValueError,
  ⟨W.mg_of X G g_NoRoad,xo_NoRoad⟩,
  ⟨xa_NoRoad,xb_NoRoad,xc_NoRoad,xd_NoRoad,xe_NoRoad,xf_NoRoad⟩,
  xm_NoRoad_SumError,
  kt_NoRoad_NoNet,
  kt_NoRoad_NoPick,
  kt_NoRoad_NoPlace,
  kt_NoRoad_NoSteps,
  kt_NoRoad_NoSum,
  kt_NoRoad_NoWay,
  kt_NoRoad_NoWorth,
  kt_NoRoad_ValueError,
  ⟨W.mg_of X G g_NoSteps,xo_NoSteps⟩,
  ⟨xa_NoSteps,xb_NoSteps,xc_NoSteps,xd_NoSteps,xe_NoSteps,xf_NoSteps⟩,
  xm_NoSteps_SumError,
  kt_NoSteps_NoNet,
  kt_NoSteps_NoPick,
  kt_NoSteps_NoPlace,
  kt_NoSteps_NoRoad,
  kt_NoSteps_NoSum,
  kt_NoSteps_NoWay,
  kt_NoSteps_NoWorth,
  kt_NoSteps_ValueError,
  ⟨W.mg_of X G g_NoSum,xo_NoSum⟩,
  ⟨xa_NoSum,xb_NoSum,xc_NoSum,xd_NoSum,xe_NoSum,xf_NoSum⟩,
  xm_NoSum_SumError,
  kt_NoSum_NoNet,
  kt_NoSum_NoPick,
  kt_NoSum_NoPlace,
  kt_NoSum_NoRoad,
  kt_NoSum_NoSteps,
  kt_NoSum_NoWay,
  kt_NoSum_NoWorth,
  kt_NoSum_ValueError,
  ⟨W.mg_of X G g_NoWay,xo_NoWay⟩,
  ⟨xa_NoWay,xb_NoWay,xc_NoWay,xd_NoWay,xe_NoWay,xf_NoWay⟩,
  xm_NoWay_SumError,
  kt_NoWay_NoNet,
  kt_NoWay_NoPick,
  kt_NoWay_NoPlace,
  kt_NoWay_NoRoad,
  kt_NoWay_NoSteps,
  kt_NoWay_NoSum,
  kt_NoWay_NoWorth,
  kt_NoWay_ValueError,
  ⟨W.mg_of X G g_NoWorth,xo_NoWorth⟩,
  ⟨xa_NoWorth,xb_NoWorth,xc_NoWorth,xd_NoWorth,xe_NoWorth,xf_NoWorth⟩,
  xm_NoWorth_SumError,
  kt_NoWorth_NoNet,
  kt_NoWorth_NoPick,
  kt_NoWorth_NoPlace,
  kt_NoWorth_NoRoad,
  kt_NoWorth_NoSteps,
  kt_NoWorth_NoSum,
  kt_NoWorth_NoWay,
  kt_NoWorth_ValueError,
  ⟨W.mg_of X G g_Fewest,mk_Fewest,in_Fewest,kp_Fewest⟩,
  ⟨W.mg_of X G g_Widest,mk_Widest,in_Widest,kp_Widest⟩,
  ⟨W.mg_of X G g_Counted,mk_Counted,in_Counted,kp_Counted⟩,
  ⟨W.mg_of X G g_Likeliest,mk_Likeliest,in_Likeliest,kp_Likeliest⟩,
  ⟨W.mg_of X G g_Chances,mk_Chances,in_Chances,kp_Chances⟩,
  ⟨W.mg_of X G g_Musts,mk_Musts,in_Musts,kp_Musts⟩,
  mk_Rests,
  kp_Rests,
  na_Rests_m,
  mk_Net,
  kp_Net,
  na_Net_own_kind,
  na_Net_how_many,
  na_Net_own_roads,
  ⟨pg_Net,hd_Net,po_Net,sa_Net⟩,
  (fun kd hk=>by cases kd <;> first | exact ⟨pg_Fewest,hd_Fewest,po_Fewest,sa_Fewest⟩ | exact ⟨pg_Widest,hd_Widest,po_Widest,sa_Widest⟩ | exact ⟨pg_Counted,hd_Counted,po_Counted,sa_Counted⟩ | exact ⟨pg_Likeliest,hd_Likeliest,po_Likeliest,sa_Likeliest⟩ | exact ⟨pg_Chances,hd_Chances,po_Chances,sa_Chances⟩ | exact ⟨pg_Musts,hd_Musts,po_Musts,sa_Musts⟩ | exact ⟨pg_Rests,hd_Rests,po_Rests,sa_Rests⟩ | exact absurd hk (by simp [HasK])),
  (fun kd hk=>by cases kd <;> first | exact ⟨ia_Fewest,ib_Fewest,ic_Fewest,id_Fewest⟩ | exact ⟨ia_Widest,ib_Widest,ic_Widest,id_Widest⟩ | exact ⟨ia_Counted,ib_Counted,ic_Counted,id_Counted⟩ | exact ⟨ia_Likeliest,ib_Likeliest,ic_Likeliest,id_Likeliest⟩ | exact ⟨ia_Chances,ib_Chances,ic_Chances,id_Chances⟩ | exact ⟨ia_Musts,ib_Musts,ic_Musts,id_Musts⟩ | exact ⟨ia_Rests,ib_Rests,ic_Rests,id_Rests⟩ | exact absurd hk (by simp [HasK])),
  kt_Fewest_Chances,
  kt_Widest_Chances,
  kt_Counted_Chances,
  kt_Likeliest_Chances,
  kt_Chances_Chances,
  kt_Musts_Chances,
  kt_Rests_Chances⟩
 have D_divisor:=d_divisor (P:=l.prog) (w:=w) (base:=base) (defAt_mk (st:=(top 11)) X G aZ2c lZ2c cZ2c_ kZ2c)
 have M_Rests:=make_Rests (P:=l.prog) (w:=w) (base:=base) T (mthAt_mk (st:=(inClass (top 30) 0)) aZ20 iZ20 lZ20 cZ20_ kZ20)
 have D_law_cell_at:=d_cell (P:=l.prog) (w:=w) (base:=base) T (defAt_mk (st:=(top 59)) X G aZ1h lZ1h cZ1h_ kZ1h)
 have D_lowest:=d_lowest (P:=l.prog) (w:=w) (base:=base) hP D_divisor (defAt_mk (st:=(top 13)) X G aZ2j lZ2j cZ2j_ kZ2j)
 have D_added:=d_added (P:=l.prog) (w:=w) (base:=base) D_lowest (defAt_mk (st:=(top 14)) X G aZ2m lZ2m cZ2m_ kZ2m)
 have D_multiplied:=d_multiplied (P:=l.prog) (w:=w) (base:=base) D_lowest (defAt_mk (st:=(top 15)) X G aZ1w lZ1w cZ1w_ kZ1w)
 have D_greater:=d_greater (P:=l.prog) (w:=w) (base:=base) (defAt_mk (st:=(top 16)) X G aZ2h lZ2h cZ2h_ kZ2h)
 have D_lacking_to_one:=d_lacking (P:=l.prog) (w:=w) (base:=base) D_lowest (defAt_mk (st:=(top 17)) X G aZv lZv cZv_ kZv)
 have D_raised:=d_raised (P:=l.prog) (w:=w) (base:=base) (defAt_mk (st:=(top 22)) X G aZ2i lZ2i cZ2i_ kZ2i)
 have V_none:=v_none (P:=l.prog) (w:=w) (base:=base) T ⟨(mthAt_mk (st:=(inClass (top 24) 0)) aZ1n iZ1n lZ1n cZ1n_ kZ1n),(mthAt_mk (st:=(inClass (top 25) 0)) aZ1o iZ1o lZ1o cZ1o_ kZ1o),(mthAt_mk (st:=(inClass (top 26) 0)) aZ15 iZ15 lZ15 cZ15_ kZ15),(mthAt_mk (st:=(inClass (top 27) 0)) aZn iZn lZn cZn_ kZn),(mthAt_mk (st:=(inClass (top 28) 0)) aZ17 iZ17 lZ17 cZ17_ kZ17),(mthAt_mk (st:=(inClass (top 29) 0)) aZ1s iZ1s lZ1s cZ1s_ kZ1s),(mthAt_mk (st:=(inClass (top 30) 1)) aZ1z iZ1z lZ1z cZ1z_ kZ1z)⟩
 have V_rest:=v_rest (P:=l.prog) (w:=w) (base:=base) T ⟨(mthAt_mk (st:=(inClass (top 24) 1)) aZ1m iZ1m lZ1m cZ1m_ kZ1m),(mthAt_mk (st:=(inClass (top 25) 1)) aZ1p iZ1p lZ1p cZ1p_ kZ1p),(mthAt_mk (st:=(inClass (top 26) 1)) aZ1d iZ1d lZ1d cZ1d_ kZ1d),(mthAt_mk (st:=(inClass (top 27) 1)) aZm iZm lZm cZm_ kZm),(mthAt_mk (st:=(inClass (top 28) 1)) aZ1b iZ1b lZ1b cZ1b_ kZ1b),(mthAt_mk (st:=(inClass (top 29) 1)) aZ1q iZ1q lZ1q cZ1q_ kZ1q),(mthAt_mk (st:=(inClass (top 30) 2)) aZ1r iZ1r lZ1r cZ1r_ kZ1r)⟩
 have V_together:=v_together (P:=l.prog) (w:=w) (base:=base) T D_greater D_added ⟨(mthAt_mk (st:=(inClass (top 24) 3)) aZj iZj lZj cZj_ kZj),(mthAt_mk (st:=(inClass (top 25) 3)) aZi iZi lZi cZi_ kZi),(mthAt_mk (st:=(inClass (top 26) 3)) aZb iZb lZb cZb_ kZb),(mthAt_mk (st:=(inClass (top 27) 3)) aZ8 iZ8 lZ8 cZ8_ kZ8),(mthAt_mk (st:=(inClass (top 28) 3)) aZe iZe lZe cZe_ kZe),(mthAt_mk (st:=(inClass (top 29) 3)) aZo iZo lZo cZo_ kZo),(mthAt_mk (st:=(inClass (top 30) 4)) aZp iZp lZp cZp_ kZp)⟩
 have V_behind:=v_behind (P:=l.prog) (w:=w) (base:=base) T D_multiplied D_raised ⟨(mthAt_mk (st:=(inClass (top 24) 4)) aZy iZy lZy cZy_ kZy),(mthAt_mk (st:=(inClass (top 25) 4)) aZz iZz lZz cZz_ kZz),(mthAt_mk (st:=(inClass (top 26) 4)) aZt iZt lZt cZt_ kZt),(mthAt_mk (st:=(inClass (top 27) 4)) aZ9 iZ9 lZ9 cZ9_ kZ9),(mthAt_mk (st:=(inClass (top 28) 4)) aZu iZu lZu cZu_ kZu),(mthAt_mk (st:=(inClass (top 29) 4)) aZ14 iZ14 lZ14 cZ14_ kZ14),(mthAt_mk (st:=(inClass (top 30) 5)) aZ1e iZ1e lZ1e cZ1e_ kZ1e)⟩
 have V_rounds:=v_rounds (P:=l.prog) (w:=w) (base:=base) T V_none V_rest V_together V_behind D_lacking_to_one ⟨(mthAt_mk (st:=(inClass (top 23) 5)) aZ11 iZ11 lZ11 cZ11_ kZ11),(mthAt_mk (st:=(inClass (top 23) 5)) aZw iZw lZw cZw_ kZw),(mthAt_mk (st:=(inClass (top 26) 5)) aZr iZr lZr cZr_ kZr),(mthAt_mk (st:=(inClass (top 23) 5)) aZa iZa lZa cZa_ kZa),(mthAt_mk (st:=(inClass (top 28) 5)) aZs iZs lZs cZs_ kZs),(mthAt_mk (st:=(inClass (top 23) 5)) aZ19 iZ19 lZ19 cZ19_ kZ19),(mthAt_mk (st:=(inClass (top 30) 6)) aZ18 iZ18 lZ18 cZ18_ kZ18)⟩
 have D_is_from:=d_is_from (P:=l.prog) (w:=w) (base:=base) T (defAt_mk (st:=(top 21)) X G aZ2b lZ2b cZ2b_ kZ2b)
 have D_is_share:=d_is_share (P:=l.prog) (w:=w) (base:=base) T D_divisor (defAt_mk (st:=(top 12)) X G aZ25 lZ25 cZ25_ kZ25)
 have V_is_worth:=v_is_worth (P:=l.prog) (w:=w) (base:=base) T D_is_from D_is_share ⟨(mthAt_mk (st:=(inClass (top 24) 2)) aZh iZh lZh cZh_ kZh),(mthAt_mk (st:=(inClass (top 25) 2)) aZk iZk lZk cZk_ kZk),(mthAt_mk (st:=(inClass (top 26) 2)) aZd iZd lZd cZd_ kZd),(mthAt_mk (st:=(inClass (top 27) 2)) aZ7 iZ7 lZ7 cZ7_ kZ7),(mthAt_mk (st:=(inClass (top 28) 2)) aZc iZc lZc cZc_ kZc),(mthAt_mk (st:=(inClass (top 29) 2)) aZq iZq lZq cZq_ kZq),(mthAt_mk (st:=(inClass (top 30) 3)) aZl iZl lZl cZl_ kZl)⟩
 have D_check_numbers:=d_check_numbers (P:=l.prog) (w:=w) (base:=base) T (defAt_mk (st:=(top 34)) X G aZ10 lZ10 cZ10_ kZ10)
 have D_check_ends:=d_check_ends (P:=l.prog) (w:=w) (base:=base) T (defAt_mk (st:=(top 35)) X G aZ1u lZ1u cZ1u_ kZ1u)
 have V_may_start_together:=v_may (P:=l.prog) (w:=w) (base:=base) T V_none D_is_share D_added D_lacking_to_one ⟨(mthAt_mk (st:=(inClass (top 23) 7)) aZ4 iZ4 lZ4 cZ4_ kZ4),(mthAt_mk (st:=(inClass (top 23) 7)) aZ3 iZ3 lZ3 cZ3_ kZ3),(mthAt_mk (st:=(inClass (top 23) 7)) aZ2 iZ2 lZ2 cZ2_ kZ2),(mthAt_mk (st:=(inClass (top 23) 7)) aZ0 iZ0 lZ0 cZ0_ kZ0),(mthAt_mk (st:=(inClass (top 28) 6)) aZ1 iZ1 lZ1 cZ1_ kZ1),(mthAt_mk (st:=(inClass (top 23) 7)) aZ6 iZ6 lZ6 cZ6_ kZ6),(mthAt_mk (st:=(inClass (top 23) 7)) aZ5 iZ5 lZ5 cZ5_ kZ5)⟩
 have D_check_starts:=d_check_starts (P:=l.prog) (w:=w) (base:=base) T V_may_start_together (defAt_mk (st:=(top 36)) X G aZ13 lZ13 cZ13_ kZ13)
 have D_check_worths:=d_check_worths (P:=l.prog) (w:=w) (base:=base) T V_is_worth (defAt_mk (st:=(top 37)) X G aZ16 lZ16 cZ16_ kZ16)
 have M_Net:=make_Net (P:=l.prog) (w:=w) (base:=base) T D_check_numbers D_check_ends D_check_starts D_check_worths (mthAt_mk (st:=(inClass (top 39) 0)) aZ27 iZ27 lZ27 cZ27_ kZ27)
 have V_kind:=v_kind (P:=l.prog) (w:=w) (base:=base) T (mthAt_mk (st:=(inClass (top 39) 1)) aZ29 iZ29 lZ29 cZ29_ kZ29)
 have V_places:=v_places (P:=l.prog) (w:=w) (base:=base) T (mthAt_mk (st:=(inClass (top 39) 2)) aZ1v iZ1v lZ1v cZ1v_ kZ1v)
 have V_roads:=v_roads (P:=l.prog) (w:=w) (base:=base) T (mthAt_mk (st:=(inClass (top 39) 3)) aZ21 iZ21 lZ21 cZ21_ kZ21)
 have D_check_place:=d_check_place (P:=l.prog) (w:=w) (base:=base) T V_places (defAt_mk (st:=(top 38)) X G aZ1l lZ1l cZ1l_ kZ1l)
 have D_worth_of:=d_worth_of (P:=l.prog) (w:=w) (base:=base) T D_check_place V_kind V_roads V_rest V_behind (defAt_mk (st:=(top 42)) X G aZ24 lZ24 cZ24_ kZ24)
 have D_straight:=d_straight (P:=l.prog) (w:=w) (base:=base) T V_kind V_places V_roads V_none V_together (defAt_mk (st:=(top 47)) X G aZ26 lZ26 cZ26_ kZ26)
 have D_led_through:=d_led (P:=l.prog) (w:=w) (base:=base) T V_rounds V_together V_behind (defAt_mk (st:=(top 48)) X G aZ1j lZ1j cZ1j_ kZ1j)
 have D_table:=d_table (P:=l.prog) (w:=w) (base:=base) T V_kind V_places V_rest V_together D_straight D_led_through (defAt_mk (st:=(top 49)) X G aZ2k lZ2k cZ2k_ kZ2k)
 have D_betters:=d_betters (P:=l.prog) (w:=w) (base:=base) T V_together (defAt_mk (st:=(top 56)) X G aZ2d lZ2d cZ2d_ kZ2d)
 have D_best_place:=d_best_place (P:=l.prog) (w:=w) (base:=base) T D_betters (defAt_mk (st:=(top 55)) X G aZ1x lZ1x cZ1x_ kZ1x)
 have D_offer:=d_offer (P:=l.prog) (w:=w) (base:=base) T V_none D_betters (defAt_mk (st:=(top 57)) X G aZ2l lZ2l cZ2l_ kZ2l)
 have D_best_ways:=d_best_ways (P:=l.prog) (w:=w) (base:=base) T V_kind V_roads V_rest V_behind D_best_place D_offer (defAt_mk (st:=(top 54)) X G aZ23 lZ23 cZ23_ kZ23)
 have V_picks:=v_picks (P:=l.prog) (w:=w) (base:=base) T ⟨(mthAt_mk (st:=(inClass (top 24) 5)) aZ1c iZ1c lZ1c cZ1c_ kZ1c),(mthAt_mk (st:=(inClass (top 25) 5)) aZ1g iZ1g lZ1g cZ1g_ kZ1g),(mthAt_mk (st:=(inClass (top 23) 6)) aZx iZx lZx cZx_ kZx),(mthAt_mk (st:=(inClass (top 27) 5)) aZf iZf lZf cZf_ kZf),(mthAt_mk (st:=(inClass (top 23) 6)) aZ12 iZ12 lZ12 cZ12_ kZ12),(mthAt_mk (st:=(inClass (top 23) 6)) aZ1k iZ1k lZ1k cZ1k_ kZ1k),(mthAt_mk (st:=(inClass (top 23) 6)) aZ1i iZ1i lZ1i cZ1i_ kZ1i)⟩
 have D_way_for:=d_way_for (P:=l.prog) (w:=w) (base:=base) T D_check_place V_kind V_picks D_best_ways (defAt_mk (st:=(top 53)) X G aZ2e lZ2e cZ2e_ kZ2e)
 have D_stepped:=d_stepped (P:=l.prog) (w:=w) (base:=base) T (defAt_mk (st:=(top 44)) X G aZ2f lZ2f cZ2f_ kZ2f)
 have D_chance_by_steps:=d_chance_by_steps (P:=l.prog) (w:=w) (base:=base) T (defAt_mk (st:=(top 45)) X G aZg lZg cZg_ kZg)
 have D_by_steps:=d_by_steps (P:=l.prog) (w:=w) (base:=base) T D_check_place V_kind V_places V_roads D_chance_by_steps D_stepped (defAt_mk (st:=(top 43)) X G aZ2a lZ2a cZ2a_ kZ2a)
 have D_total:=d_total (P:=l.prog) (w:=w) (base:=base) T D_check_place D_table (defAt_mk (st:=(top 50)) X G aZ2n lZ2n cZ2n_ kZ2n)
 have D_without:=d_without (P:=l.prog) (w:=w) (base:=base) T V_kind V_places V_none D_check_place D_straight D_led_through M_Net (defAt_mk (st:=(top 51)) X G aZ2g lZ2g cZ2g_ kZ2g)
 have D_law_which:=d_law_which (P:=l.prog) (w:=w) (base:=base) T (defAt_mk (st:=(top 60)) X G aZ22 lZ22 cZ22_ kZ22)
 have D_law_no_net:=d_law_no_net (P:=l.prog) (w:=w) (base:=base) hP T M_Net D_without (defAt_mk (st:=(top 61)) X G aZ1y lZ1y cZ1y_ kZ1y)
 have D_law_no_worth:=d_law_no_worth (P:=l.prog) (w:=w) (base:=base) hP T M_Net M_Rests (defAt_mk (st:=(top 62)) X G aZ1a lZ1a cZ1a_ kZ1a)
 have D_law_no_place:=d_law_no_place (P:=l.prog) (w:=w) (base:=base) hP T D_worth_of D_by_steps D_total D_without D_way_for (defAt_mk (st:=(top 63)) X G aZ1f lZ1f cZ1f_ kZ1f)
 have D_law_no_sum:=d_law_no_sum (P:=l.prog) (w:=w) (base:=base) hP T M_Net D_table D_total D_without (defAt_mk (st:=(top 64)) X G aZ1t lZ1t cZ1t_ kZ1t)
 have D_law_done:=d_law_done (P:=l.prog) (w:=w) (base:=base) hP T M_Net M_Rests D_law_no_net D_law_no_worth D_law_no_place D_law_no_sum D_worth_of D_by_steps D_way_for (defAt_mk (st:=(top 65)) X G aZ28 lZ28 cZ28_ kZ28)
 exact ok_law hP T D_law_cell_at D_law_done D_law_which F_law
theorem walk {l:PySem.W.OpenLaw} {q:Program} {loose:List Str} {XP:(Str→Option Value)→Heap→Prop} {YP:World→Heap→Prop} {d:DefRec} {K:Params→PySem.W.Frag} (hn:l.most=some 63) (hdf:d.params.defaults=[]) (him:PyProof.Rows.importsNone q=true)
  (hY:∀ (w:World) (h:Heap),YP w h→(K w.params).In h)
  (F:∀ (w:World) (mg:Str→Option Value) (fa:Addr) (h:Heap),(K w.params).In h→h.Ns mainGlobals mg→mg d.name=some (.ref fa) →
   ∃ fd:FuncData,(∀ (s:Shared) (u:Value),BindsTo s fd ⟨[u],[]⟩ [("script",u)])∧∀ base:Heap,(K w.params).In base→base.Ns mainGlobals mg→FnOk l.prog w (K w.params) mg base (CXE l.prog w) 43 fa fd ["script"] (spLaw (K w.params))) :
  PySem.W.WalkO q loose XP YP l.row.toRowW d [] (fun f vs=>PySem.call f vs) :=
 L2.walk_of (n:=63) (k:=43) (x:="script") (CX:=fun w=>CXE l.prog w) (sp:=fun w=>spLaw (K w.params)) hn (by decide) hdf ⟨rfl,by decide,by decide,rfl⟩ hY F (fun _ _ a ns hl _ hS=>⟨a,ns,rfl,hS,hl,fun _=>rfl⟩)
  (fun _ _ _ _ _ ⟨_,_,_,_,_,_,_,_,_,z⟩=>z) him
end
end K15
namespace PySem.W.Fast
def tw7252509581348152953:=()
def tw5954571674210624690:=()
def tw10569040750819362509:=()
def tw14331669984188279942:=()
def tw14001739548410972817:=()
def tw2370882564207434873:=()
def tw9581268603512599939:=()
def tw15899375197884090965:=()
def tw6672990946322810175:=()
def tw6178113548318146497:=()
def tw3822134227924258324:=()
def tw14825340085010761125:=()
def tw7554384878574717098:=()
def tw7255274125116365537:=()
def tw15891211964644229254:=()
def tw5336904533096373628:=()
def tw17514845258907134457:=()
def tw11903342692113070540:=()
def tw5870063100101465978:=()
def tw2073379439130404025:=()
def tw3585508617319895979:=()
def tw18214834689202140051:=()
def tw4198154525166679374:=()
def tw16091180398561235626:=()
def tw7104667672817634088:=()
def tw680446953286554516:=()
def tw6580131643643428101:=()
def tw16477460495637562999:=()
def tw16953554283031698023:=()
def tw785517138884473597:=()
def tw12677401756628542948:=()
def tw6662640252501983894:=()
def tw6292318408783621643:=()
def tw9147462163320212124:=()
def tw16156232547563701290:=()
def tw17824235618175623232:=()
def tw7091965471794113503:=()
def tw10923415008431721209:=()
def tw5952201652621375312:=()
def tw16641147953472810282:=()
def tw8951861684061090061:=()
def tw15119268090673750952:=()
def tw9991763819229938522:=()
def tw3983298828911968479:=()
def tw848410177228924257:=()
def tw7293507818975875904:=()
def tw1020067572903705445:=()
def tw926564285696418908:=()
def tw9767722478250690212:=()
def tw1314581742123458282:=()
def tw11092723245923038541:=()
def tw2987185552127341581:=()
def tw5185258590230333999:=()
def tw17067021600423664010:=()
def tw6055016992814600069:=()
def tw6853075798805517580:=()
def tw9917799538009129066:=()
def tw3700747797894166968:=()
def tw465961752980063484:=()
def tw1917550478217859205:=()
def tw9220357426780628873:=()
def tw6536600421388431728:=()
def tw10660348187933627575:=()
def tw3339025520582035949:=()
def tw9853139071610042130:=()
def tw9661876997904052891:=()
def tw8162049516893674:=()
def tw17352285924139966633:=()
def tw2427622102360279709:=()
def tw12203489073291789316:=()
def tw1483898834730958417:=()
def tw8732005379140318822:=()
def tw6290751962749645117:=()
def tw9618643997846430319:=()
def tw13700073291919102626:=()
def tw13264503316713559589:=()
def tw11723498411480604533:=()
def tw16143426322559565385:=()
def tw15203737262832428614:=()
def tw9589295411642688727:=()
def tw17045445478460251361:=()
def tw13552774411409677612:=()
def tw668069421797074445:=()
def tw411489844295031172:=()
def tw9768514682526292252:=()
def tw2186870629178790426:=()
def tw6961108044062136221:=()
def tw12796263510750366524:=()
def tw4921183834032729073:=()
def tw15628422594643887914:=()
def tw9495585105344296268:=()
def tw8100529907154590891:=()
def tw6243660578097823887:=()
def tw5680189144445755588:=()
def tw15816097325799362838:=()
def tw14748923852368892969:=()
def tw9932207290050312951:=()
def tw5759978985572849932:=()
def tw2520466689407116489:=()
def tw907174794542600516:=()
def tw16871263194482534927:=()
def tw12187407871979802907:=()
def tw18277165121215306335:=()
def tw16429328059071697835:=()
def tw3948734034250179436:=()
def tw8889443466829527486:=()
def tw1194543324352721441:=()
def tw9038134112209323678:=()
def tw14905159315955335878:=()
def tw18221081716950576713:=()
def tw9068189022614139329:=()
def tw18375327981072929009:=()
def tw7567384460480806269:=()
def tw258298430388159505:=()
def tw4190122036116985924:=()
def tw878004352294102324:=()
def tw2639128684316922385:=()
def tw14051362007921120943:=()
def tw17983296373874674124:=()
def tw9377598572246483979:=()
def tw13016606071135443663:=()
def tw6238185620764531420:=()
def tw3614011181268647992:=()
def tw6811587062238020479:=()
def tw14091996406470940956:=()
def tw15128176459290697281:=()
def tw1328035545827775245:=()
def tw11469187089173251930:=()
def tw10221591379716224575:=()
def tw1581072154600603256:=()
def tw7877335840622237939:=()
def tw10472221893576762228:=()
def tw1371538109132787746:=()
def tw12297038575815902696:=()
def tw15797199445744339747:=()
def tw5528962136878853094:=()
def tw8964073873113159067:=()
def tw3121248755857072186:=()
def tw11437684487646642423:=()
def tw3702086227694012690:=()
def tw176620517518417150:=()
def tw7484139511636795210:=()
def tw3268136383465082624:=()
def tw6880433363061247049:=()
def tw9260862958870892594:=()
def tw6941448968013142576:=()
def tw16866912817377544923:=()
def tw10879541901817599927:=()
def tw16559368494254851515:=()
def tw14095932854431262176:=()
def tw268509924817425168:=()
def tw9830946531105212445:=()
def tw160844756447319011:=()
def tw12018005584762865744:=()
def tw9606477954931193197:=()
def tw7049905956022543066:=()
def tw1539839848289630222:=()
def tw6975018613075902223:=()
def tw7949418507315871375:=()
def tw17956588004137774882:=()
def tw14068814209348628505:=()
def tw14899358602487130334:=()
def tw4737349541103419994:=()
def tw1012721739338926417:=()
def tw14233726928762820882:=()
def tw909955107410430849:=()
def tw2558297459729935216:=()
def tw15940963687109905468:=()
def tw12697149499212119152:=()
def tw1591783241809399406:=()
def tw12553919592909210806:=()
def tw18058319754277045167:=()
def tw1146232194870605879:=()
def tw6322395662661526895:=()
def tw3534494014451797314:=()
def tw7277975519067442005:=()
def tw13518883840271393516:=()
def tw17266124231329586457:=()
def tw8256151101004300392:=()
def tw14769550619715185238:=()
def tw1087451102758724890:=()
def tw11158552412984626811:=()
def tw6051091882669372643:=()
def tw5637599427583428706:=()
def tw2231199115311713396:=()
def tw6867445344821563300:=()
def tw9562082079980677946:=()
def tw14066471481009325862:=()
def tw4412496839138209907:=()
def tw11777840373721129068:=()
def tw7571802629520043603:=()
def tw805904084976601605:=()
def tw4980894845745046211:=()
def tw18101029176125324368:=()
def tw7002458469100045054:=()
def tw11767204248516220710:=()
def tw5548149893405515241:=()
def tw14318681549237629513:=()
def tw18243916425263945135:=()
def tw3400439048330487893:=()
def tw6568385855160978686:=()
def tw6146712790280593495:=()
def tw4504888625956646302:=()
def tw15022291829120267599:=()
def tw14996613505344113472:=()
def tw14345120908455986020:=()
def tw9860480018748944964:=()
def tw4024115911462943899:=()
def tw16479749261113026717:=()
def tw3911359617823419558:=()
def tw16204869905988295734:=()
def tw2863757488551015749:=()
def tw3826841448327632189:=()
def tw17240458772310021549:=()
def tw3400080309755497691:=()
def tw15867262056238340184:=()
def tw93934068248940004:=()
def tw12784771761945995315:=()
def tw18181496066506688071:=()
def tw6331959214241844381:=()
def tw18021309603936235175:=()
def tw1100910127890433679:=()
def tw5767709648762085313:=()
def tw9904102563819059588:=()
def tw12288294790400163402:=()
def tw14341349950294759472:=()
def tw16491339141060755172:=()
def tw601353573655009067:=()
def tw8349038845180520463:=()
def tw15584018606395175428:=()
def tw10376454750229933831:=()
def tw4935379290558784451:=()
def tw18167491617259968787:=()
def tw14490237783512330084:=()
def tw2588081232976422839:=()
def tw17947438592034451654:=()
def tw17887848997661496531:=()
def tw13916902468413369789:=()
def tw17953185896184799045:=()
def tw16147105909654707097:=()
def tw479740785725149539:=()
def tw6265049711109244077:=()
def tw11835292783374590886:=()
def tw13902227120312570605:=()
def tw5132939068764246806:=()
def tw14247710082312734340:=()
def tw14195623668400607854:=()
def tw679464621171312842:=()
def tw2318310217598609997:=()
def tw15269868199751846825:=()
def tw13729251164888868560:=()
def tw15052161643311718250:=()
def tw15355037363237040789:=()
def tw16923913683406321610:=()
def tw10298654130106805686:=()
def tw1851036406476939152:=()
def tw5120726035483280421:=()
def tw12197261709063821913:=()
def tw11663813402785432095:=()
def tw7859465884766516008:=()
def tw17332813182188353426:=()
def tw12821374738860737229:=()
def tw3303959260053872708:=()
def tw12143660203983181710:=()
def tw7690601634295156530:=()
def tw674846575374558939:=()
def tw4977323913394960995:=()
def tw15546023931337223669:=()
def tw3270201310801125683:=()
def tw10578453876642877470:=()
def tw16044564927462014473:=()
def tw10211440183050047824:=()
def tw5875217186185242903:=()
def tw11605677589440711743:=()
def tw14491907580109386833:=()
def tw6461632172396724893:=()
def tw12135504209866656588:=()
def tw6595431323097731044:=()
def tw2095394010069660388:=()
def tw12895839586748902526:=()
def tw1110277500643414482:=()
def tw4875026398764927378:=()
def tw13567138396493450308:=()
def tw17300327881277347304:=()
def tw5363766304732587202:=()
def tw9908080824258104249:=()
def tw8056561534298903791:=()
def tw1567701138690053917:=()
def tw10901469945754956229:=()
def tw11150804834697605189:=()
def tw13211228774509548197:=()
def tw8110457726676499754:=()
def tw831231161705673717:=()
def tw6978499632686163178:=()
def tw9432880989849442350:=()
def tw15158884545459261237:=()
def tw15427102066838955675:=()
def tw593971571338809564:=()
def tw18204931980073672231:=()
def tw15280341586986753257:=()
def tw5722665800332014672:=()
def tw18207255318837823926:=()
def tw821072972834515717:=()
def tw17902252453424883535:=()
def tw13557165041751823952:=()
def tw14773407634446255766:=()
def tw4905320540666708360:=()
def tw15587573345608833081:=()
def tw552380591057962233:=()
def tw8908468287852422804:=()
def tw5745490024081209629:=()
def tw13193764371830899782:=()
def tw12439009293412887487:=()
def tw6020882377973890410:=()
def tw18035062198800821197:=()
def tw6490217870600588693:=()
def tw3468040548006791888:=()
def tw5993733227247435814:=()
def tw4545076186976891925:=()
def tw16475493562841022293:=()
def tw17910489408524407722:=()
def tw4360593390627507479:=()
def tw8514297385613421534:=()
def tw3469141914886487478:=()
def tw11693546682610456204:=()
def tw17225488818337777460:=()
def tw17844427837177378957:=()
def tw6273749852497788932:=()
def tw14077278763431514215:=()
def tw11700700288386623957:=()
def tw1836627429812552640:=()
def tw5974996637145292754:=()
def tw11157110717712379141:=()
def tw13802202591696402433:=()
def tw2686965676123992455:=()
def tw12070611615640579514:=()
def tw7299893677898097364:=()
def tw11898034291134412847:=()
def tw375327114612450076:=()
def tw14739922425449770546:=()
def tw8738765777370067549:=()
def tw11207525785954061213:=()
def tw5085951998230730732:=()
def tw17633436433009766053:=()
def tw15202991642407582803:=()
def tw1230221188556022832:=()
def tw16950783806786785040:=()
def tw7429033556566079558:=()
def tw12059654391522508915:=()
def tw11452578401423604733:=()
def tw5244182713232890888:=()
def tw15734747413964003022:=()
def tw8348291078359321554:=()
def tw11442619191782531425:=()
def tw3426617014585942833:=()
def tw5929573449995500596:=()
def tw8931585081488234784:=()
def tw11705935745140856328:=()
def tw14294380192563136186:=()
def tw4176601870838234831:=()
def tw3349282097338919338:=()
def tw13931732333053092849:=()
def tw7794459335959189080:=()
def tw16909285753036324915:=()
def tw3942953667659487237:=()
def tw10318130967427447504:=()
def tw4637654511328592514:=()
def tw9859271504200364394:=()
def tw7959492439893936696:=()
def tw16540745225874702517:=()
def tw1754506464541121337:=()
def tw5711948801151289147:=()
def tw14568323289244455275:=()
def tw4949097524655206918:=()
def tw17653743066130434748:=()
def tw12417445830401398138:=()
def tw9189611937678149616:=()
def tw2326463764603844569:=()
def tw17016690053213347068:=()
def tw10808830595730987812:=()
def tw10471265328275864531:=()
def tw5714242863692065231:=()
def tw15534471645881351006:=()
def tw215152721954955691:=()
def tw990697128910132028:=()
def tw2046079293982732402:=()
def tw577408335531075364:=()
def tw377929435270939068:=()
def tw3073877789109930969:=()
def tw7116217609803829485:=()
def tw16159550219176321633:=()
def tw1814835950425651556:=()
def tw13289830924834443836:=()
def tw15578445648690190380:=()
def tw741455231861386452:=()
def tw17075476701408307995:=()
def tw17671932807493836935:=()
def tw5055388307057592100:=()
def tw3188836822090873665:=()
def tw16414610405964372342:=()
def tw1222331580899573753:=()
def tw10995972845651186449:=()
def tw4363349426685010731:=()
def tw10949295930125466123:=()
def tw13535304370907966219:=()
def tw4282180909197197422:=()
def tw15336176654364804202:=()
def tw2190756775286799076:=()
def tw18272263713688857920:=()
def tw12261470977914715384:=()
def tw8471269577259528036:=()
def tw13288510754318996376:=()
def tw7184722329771387142:=()
def tw17750137867596853593:=()
def tw4523095776167915335:=()
def tw4065092870102662343:=()
def tw7698771503531490491:=()
def tw4266470746162464949:=()
def tw15334438755710396629:=()
def tw15320745068317309099:=()
def tw11551477049419887866:=()
def tw10107218389130848212:=()
def tw12191606020536758187:=()
def tw2326251811260316895:=()
def tw8292690552482844531:=()
def tw6272897068238798639:=()
def tw8629597600356939344:=()
def tw5277832850859342617:=()
def tw17071181168513320235:=()
def tw2785609214208538068:=()
def tw717213899073849965:=()
def tw2189487625514750040:=()
def tw14163599889603971410:=()
def tw13254239083127386705:=()
def tw8306638017063099604:=()
def tw9257646603856312111:=()
def tw14917532260996540826:=()
def tw448638693655653783:=()
def tw1959160232399000962:=()
def tw6352095181851412302:=()
def tw4824131232158194857:=()
def tw9106200537036047145:=()
def tw16750540076823435081:=()
def tw7250287426011382033:=()
def tw10132922733792442417:=()
def tw9723842601584077876:=()
def tw5969295953155862813:=()
def tw3990884066281083150:=()
def tw6737933263685025380:=()
def tw11694535526449461676:=()
def tw6372535421639258143:=()
def tw8745273592652173848:=()
def tw3915930063798032514:=()
def tw8252541381188270675:=()
def tw13290959181589410249:=()
def tw3771802450690110643:=()
def tw15295286736906911364:=()
def tw9012945355381046338:=()
def tw15666427598299224767:=()
def tw17299155129466656445:=()
def tw15446448813450492940:=()
def tw2120169422348369718:=()
def tw5897150390181779484:=()
def tw7682746486339290969:=()
def tw9052657231505974965:=()
def tw18266673517609480665:=()
def tw15084210159669465257:=()
def tw6479542440253139483:=()
def tw6292859177205506887:=()
def tw2378635358577233805:=()
def tw15824229723302339995:=()
def tw15289413070814681577:=()
def tw3826330108282082668:=()
def tw3362293319985045977:=()
def tw11857092666837338925:=()
def tw11236110958969204078:=()
def tw15680988331326882335:=()
def tw17419852916160537908:=()
def tw8773623225548818553:=()
def tw11774405033784085180:=()
def tw10152924588617407541:=()
def tw16199367546717435909:=()
def tw12805426882042798695:=()
def tw1280366998328558015:=()
def tw6973785576591859816:=()
def tw2002506405802146041:=()
def tw12083851050873881093:=()
def tw6026623516974914338:=()
def tw3326974394103590714:=()
def tw14767317443627368944:=()
def tw12285234768269601788:=()
def tw1684366510957947329:=()
def tw873229481148792780:=()
def tw3302221463291714495:=()
def tw2688013877365203139:=()
def tw12897906116377321947:=()
def tw9901589553977985778:=()
def tw10283560187882236949:=()
def tw12726006975708224787:=()
def tw13028836137101887304:=()
def tw15283050000373297378:=()
def tw10856466415501414555:=()
def tw1670185432341046586:=()
def tw2453281349969491256:=()
def tw6992468334765363786:=()
def tw4730948662329998316:=()
def tw10315057241947741553:=()
def tw1944736013264648464:=()
def tw7244984708073423132:=()
def tw3858463688672091814:=()
def tw1236968912856167333:=()
def tw11563512999954541466:=()
def tw8375483221005838315:=()
def tw15705626913593040954:=()
def tw2936433792235194158:=()
def tw5381397947713064080:=()
def tw16118004200501127783:=()
def tw12154890886602138131:=()
def tw611731585487638406:=()
def tw1619343655007234368:=()
def tw5615602399444412908:=()
def tw9129128981005739422:=()
def tw7390588516458583980:=()
def tw7349220745129679583:=()
def tw7410623773183928645:=()
def tw1085264710591179137:=()
def tw1740109821334117031:=()
def tw12964461092712646265:=()
def tw5702436047801508903:=()
def tw1301903305471694531:=()
def tw14490502824084241564:=()
def tw6753946115971957501:=()
def tw5415769477177080448:=()
def tw14425831351696998613:=()
def tw8386083204683706323:=()
def tw9574439350420343622:=()
def tw16976382566617241186:=()
def tw163542986557916799:=()
def tw15145558851644874909:=()
def tw1792450062794566232:=()
def tw12703133407064522158:=()
def tw17131695643590025404:=()
def tw16959527988438583976:=()
def tw8924048994172481035:=()
def tw17445132302677799233:=()
def tw12815346571635321287:=()
def tw1861211890051817611:=()
def tw2916316921725019408:=()
def tw3496682167399118402:=()
def tw5430223371382991335:=()
def tw5957785493190615502:=()
def tw16228533396835596041:=()
def tw18309501113841696710:=()
def tw185387313604069626:=()
def tw3502124475039411191:=()
def tw9625353589769928923:=()
def tw7927318579757243587:=()
def tw1734285076673112257:=()
def tw7649264888514339800:=()
def tw1255385730439521686:=()
def tw17344744786909301652:=()
def tw3065386067511047014:=()
def tw545078203181314271:=()
def tw2892989153043692609:=()
def tw36990928782240665:=()
def tw13941975528402029029:=()
def tw3780828676648153747:=()
def tw8912491945589446219:=()
def tw15357735737519908227:=()
def tw10402992769340837794:=()
def tw15530769008411969710:=()
def tw4915302980739524003:=()
def tw8244905935238104690:=()
def tw796462684331999652:=()
def tw14081801174353985938:=()
def tw14328292620482533600:=()
def tw8970672284649121528:=()
def tw15478497396914873388:=()
def tw10420574558829763967:=()
def tw10486384150697173663:=()
def tw11731959899852788392:=()
def tw5597073383475846840:=()
def tw11138595807955408182:=()
def tw8089572904583675230:=()
def tw2264667070351823987:=()
def tw7124113000089695589:=()
def tw9402811459095438714:=()
def tw632950055588498602:=()
def tw8250769725050512533:=()
def tw7765262576763412654:=()
def tw528384601643174874:=()
def tw15529618623389842095:=()
def tw16847922844466621227:=()
def tw14858102061585677703:=()
def tw11268618397737752825:=()
def tw17337512942671374550:=()
def tw7165437116596184969:=()
def tw11911402591707483756:=()
def tw3439319874600564064:=()
def tw2821279675751649467:=()
def tw5470146904054859731:=()
def tw14036083886911093657:=()
def tw13698535586056648529:=()
def tw10071411348315816540:=()
def tw13252395263480379697:=()
def tw14223263634968839337:=()
def tw6578992206440265016:=()
def tw4597824369231031487:=()
def tw14389235031007522091:=()
def tw664507369583597573:=()
def tw5821384434102820697:=()
def tw7506480493097148730:=()
def tw8221126574287766992:=()
def tw5134428036405220095:=()
def tw3333766106445781060:=()
def tw12455042176822467905:=()
def tw2926464530972214374:=()
def tw4588273181420061866:=()
def tw10743327577833684775:=()
def tw2948123670451265426:=()
def tw13529079136755817242:=()
def tw4544565465387891272:=()
def tw11100071913046019865:=()
def tw13594410918316627003:=()
def tw6152854361454237282:=()
def tw6010252142010377278:=()
def tw2020812839367061736:=()
def tw7013278588406879565:=()
def tw11824768559921770308:=()
def tw3675410306469843785:=()
def tw2088548925574793801:=()
def tw4905429559812731328:=()
def tw3765052904736706163:=()
def tw9053409424460250615:=()
def tw9562591538189723475:=()
def tw12946736067411775479:=()
def tw1143463447359414283:=()
def tw9271251790762300542:=()
def tw11105808848899058859:=()
def tw16800107637850857478:=()
def tw13533525595339822014:=()
def tw8267635283517751868:=()
def tw11417803172774054823:=()
def tw16747038500875312547:=()
def tw2559424891061875237:=()
def tw1049102201295586590:=()
def tw1210003336389573227:=()
def tw781132418674532543:=()
def tw8342878262169215672:=()
def tw9542751893020752862:=()
def tw6394547577385809864:=()
def tw10707351752749000701:=()
def tw3170418813464870848:=()
def tw810116320601209728:=()
def tw51637860940690120:=()
def tw6713408658457986426:=()
def tw6661125242863183711:=()
def tw13522764780925619787:=()
def tw2596510914661572720:=()
def tw4759227157448721034:=()
def tw2614035708432192393:=()
def tw1466612827473840552:=()
def tw6642626821417367508:=()
def tw11638173011849877033:=()
def tw10493452736489258322:=()
def tw3204818038078026993:=()
def tw14582326527318815844:=()
def tw3389320567257730011:=()
def tw15530233624491719372:=()
def tw3947275601661933071:=()
def tw18295811300688655826:=()
def tw18425469680355662184:=()
def tw16687726258784957767:=()
def tw12062531125864200296:=()
def tw8801943936334067128:=()
def tw4586143182408810900:=()
def tw1646071204764140397:=()
def tw10462869843755789513:=()
def tw8862091805100630773:=()
def tw5144448895798459871:=()
def tw7974801891517389829:=()
def tw14305046508682021812:=()
def tw4326269748700384077:=()
def tw9690863437736363694:=()
def tw11237153289409856785:=()
def tw4979764768212481179:=()
def tw16611272145444753499:=()
def tw11686664281019806569:=()
def tw2647680073620509281:=()
def tw15152402761737839463:=()
def tw9992748970908213435:=()
def tw18349363712427720470:=()
def tw9072743449405042885:=()
def tw10863169501032279036:=()
def tw5530857020651438524:=()
def tw8737245521853481453:=()
def tw16814538675608590010:=()
def tw14056072107269053149:=()
def tw2664546871019705827:=()
def tw10788379323552394902:=()
def tw12336656969013877742:=()
def tw2244077259838103877:=()
def tw6826891498953902867:=()
def tw7125133176385552674:=()
def tw18015645425787507918:=()
def tw11795725936262862111:=()
def tw11677113137305445156:=()
def tw8469138947694694324:=()
def tw1935538108605366372:=()
def tw5206554282283294571:=()
def tw6931558257228929264:=()
def tw5823146836441988289:=()
def tw3824210470995308821:=()
def tw1513217666578153510:=()
def tw1970151061479275164:=()
def tw7150684788991119118:=()
def tw14553345469123020303:=()
def tw13183193593906261837:=()
def tw11468787122624923179:=()
def tw15470472227677090504:=()
def tw8490466627611278126:=()
def tw7664735793355572169:=()
def tw18216942164593783268:=()
def tw1501131292913674982:=()
def tw10999970394804356212:=()
def tw7715118125135223414:=()
def tw13514329781856433235:=()
def tw17505144582418939801:=()
def tw1775357552014617187:=()
def tw15062852336056722318:=()
def tw17912940085596314286:=()
def tw15230146899094222638:=()
def tw3805313638455368187:=()
def tw6300766081096606924:=()
def tw13709096488027291967:=()
def tw1918143458890454023:=()
def tw12896491082767533989:=()
def tw1332686065102083878:=()
def tw15860854546601914863:=()
def tw566057428973929289:=()
def tw11869624999739639178:=()
def tw7415922854282512654:=()
def tw14172005897253872722:=()
def tw9628698189975939415:=()
def tw11762015172431626764:=()
def tw18234946933170837498:=()
def tw10385984590289482427:=()
def tw3921814012699019802:=()
def tw1196855843648214373:=()
def tw17609827593072788019:=()
def tw6127464798141264982:=()
def tw8483945606895995573:=()
def tw15910889839747779837:=()
def tw14393802421921527751:=()
def tw16579039174463999650:=()
def tw4015936262334365126:=()
def tw14248510127692355682:=()
def tw4414395374782498706:=()
def tw8665764411491006375:=()
def tw10111909071136007012:=()
def tw15945272712171627718:=()
def tw7188909410843206474:=()
def tw9321977147948933405:=()
def tw7641341132436843957:=()
def tw15703649633715849530:=()
def tw8693708433787347720:=()
def tw1428086223967379421:=()
def tw9521129816906884683:=()
def tw8888812701925746480:=()
def tw1592245394331339001:=()
def tw18055468205989543505:=()
def tw422576794104301652:=()
def tw13219917552218134329:=()
def tw14435679473633098530:=()
def tw8293302708999775371:=()
def tw11829368619944017639:=()
def tw14413071075502334072:=()
def tw13642522811256973494:=()
def tw5608767285096437208:=()
def tw2922304719261659786:=()
def tw1149047138087841299:=()
def tw8618150941047482504:=()
def tw11839284399901502995:=()
def tw2105063594962756580:=()
def tw992958881484704530:=()
def tw9810316694528948959:=()
def tw3838538603095711902:=()
def tw15996751874614952405:=()
def tw11774667500125563320:=()
def tw14060637073897525414:=()
def tw9845183319716336780:=()
def tw193734294800017523:=()
def tw5180301064084776397:=()
def tw1447964931519933662:=()
def tw14714634693637115620:=()
def tw4227177757012551865:=()
def tw4690545150338528506:=()
def tw3569426148068973639:=()
def tw8419960000969454270:=()
def tw13894975380386090330:=()
def tw14515492152412221746:=()
def tw10659562003356250187:=()
def tw8663902967948999291:=()
def tw16986313806332096070:=()
def tw5886785088521815758:=()
def tw12649660302191809480:=()
def tw13852308205886632014:=()
def tw8207724286669893441:=()
def tw12603176831955224596:=()
def tw9406816910978783982:=()
def tw6063456893357393912:=()
def tw1453378471292437883:=()
def tw8059689346997202180:=()
def tw7060160999613708649:=()
def tw11614524099046197408:=()
def tw16084897954506934125:=()
def tw14515951075958241476:=()
def tw14910443739534405218:=()
def tw10098384553834956162:=()
def tw1428885315743767060:=()
def tw17263961602554909007:=()
def tw13592975215072506032:=()
def tw17477511772313833070:=()
def tw17435213557189328002:=()
def tw9341086829034027816:=()
def tw6031896015553034112:=()
def tw626521321074869271:=()
def tw7542552514833852979:=()
def tw15096146728748739993:=()
def tw12273351372983753849:=()
def tw10624961766652631449:=()
def tw13438602010019851346:=()
def tw1391447345643625019:=()
def tw3673875950903198298:=()
def tw7170967412688635807:=()
def tw7355790818466074938:=()
def tw9978362046887289570:=()
def tw2022769200610631236:=()
def tw8303667452762701650:=()
def tw15301512247983619152:=()
def tw10069661400303615317:=()
def tw11271019782665030972:=()
def tw770475441328422220:=()
def tw6212416986040192406:=()
def tw6635326527224459173:=()
def tw7934246881269134874:=()
def tw13096332018571268036:=()
def tw11921699337937848481:=()
def tw6830552263855884675:=()
def tw15105839605560611446:=()
def tw7448227466502850408:=()
def tw4261856770625177557:=()
def tw7875654954102409189:=()
def tw15393723909268101278:=()
def tw6406119414246510208:=()
def tw8004432408380748836:=()
def tw14115992894938081369:=()
def tw8961786603604059594:=()
def tw220430459376087563:=()
def tw14366998381576544196:=()
def tw1623260825043704567:=()
def tw6062687015477900658:=()
def tw8856054040342131824:=()
def tw10499519669324328028:=()
def tw7515280681032188933:=()
def tw12670742194322398623:=()
def tw9321183146199668049:=()
def tw16412117222077434804:=()
def tw2291412593914800417:=()
def tw5190205283784918270:=()
def tw2224702735451888703:=()
def tw3685166035822670587:=()
def tw11847593413779240873:=()
def tw15883660809782454211:=()
def tw2847408504715881715:=()
def tw13575564444755264785:=()
def tw5709697100794619366:=()
def tw11233387289910981860:=()
def tw15191105515552621223:=()
def tw6363361580965109474:=()
def tw9914479533980911147:=()
def tw8665393495354730175:=()
def tw4868976630676461043:=()
def tw5835830744446388838:=()
def tw16026588611845987178:=()
def tw10177878959756616822:=()
def tw12054488509819663604:=()
def tw16616515023975838126:=()
def tw5219994256389182205:=()
def tw11332778753429904460:=()
def tw12359343371179152035:=()
def tw4357064954493936297:=()
def tw8366946931743428722:=()
def tw245076926751281686:=()
def tw2484443753059960558:=()
def tw12510029327568141262:=()
def tw12471259716663579718:=()
def tw6942304176631691396:=()
def tw2256240896771094777:=()
def tw1806334588843113851:=()
def tw18128154896520197186:=()
def tw2705166504842781141:=()
def tw1917080143108600228:=()
def tw7227469442840967035:=()
def tw8159905245478616367:=()
def tw5000349033114945658:=()
def tw10147179093385668925:=()
def tw14035235406160783555:=()
def tw14488612125397023728:=()
def tw11527325007563204932:=()
def tw10027180028368704013:=()
def tw6694996046317563437:=()
def tw7724796014263349689:=()
def tw11915731656537945525:=()
def tw10844516909077463052:=()
def tw15272525895463480880:=()
def tw7065802413368812495:=()
def tw4038570802237251258:=()
def tw17343478462740937866:=()
def tw13431275967689259101:=()
def tw9593557357489176195:=()
def tw11288416076944926687:=()
def tw11433743643178657781:=()
def tw2821022670527586408:=()
def tw8934100422566355003:=()
def tw5871906840708152161:=()
def tw7982923505139176587:=()
def tw5300982631045965385:=()
def tw4495158638436208917:=()
def tw16168931735631092255:=()
def tw8716644915868160066:=()
def tw4279364000944231159:=()
def tw1923622726290730124:=()
def tw1577200436099295018:=()
def tw17276348280304575811:=()
def tw5372409298096626266:=()
def tw17964870455408035547:=()
def tw4444439324006312889:=()
def tw13869948874710736609:=()
def tw3694350398410902474:=()
def tw7636359540539093841:=()
def tw5390506898880985142:=()
end PySem.W.Fast
open PySem PySem.W PyProof.Rows
set_option maxRecDepth 100000 in
set_option maxHeartbeats 0 in
theorem PySem.Challenge.cw_waysum_k15_each_refusal_its_own_holds : PySem.Challenge.rw_waysum_k15_each_refusal_its_own.Holds := by
  w_on; o_law; k_head; (case hw => w_witness2)
  k_fill
  refine K15.walk (l := PySem.Challenge.rw_waysum_k15_each_refusal_its_own) rfl rfl ?him (fun w h Y => PySem.W.kIn_of Y) ?F
  case him => first | rfl | decide +kernel
  case F =>
    intro w mg fa h KX G hmg
    refine' K15.all_mk rfl KX G hmg ?g_SumError ?g_NoNet ?g_NoWorth ?g_NoPlace ?g_NoRoad ?g_NoSteps ?g_NoPick ?g_NoSum ?g_NoWay ?g_Kind ?g_Fewest ?g_Widest ?g_Counted ?g_Likeliest ?g_Chances ?g_Musts ?g_Rests ?g_Net ?g_WIDEST ?g_MOST_RESTS ?g_MOST_PLACES ?g_MOST_ROADS ?g_MOST_STEPS ?z_isinstance ?z_len ?z_int ?z_tuple ?z_list ?z_ValueError ?z_range ?z_min ?z_max ?z_enumerate ?xo_NoNet ?xa_NoNet ?xb_NoNet ?xc_NoNet ?xd_NoNet ?xe_NoNet ?xf_NoNet ?xm_NoNet_SumError ?kt_NoNet_NoPick ?kt_NoNet_NoPlace ?kt_NoNet_NoRoad ?kt_NoNet_NoSteps ?kt_NoNet_NoSum ?kt_NoNet_NoWay ?kt_NoNet_NoWorth ?kt_NoNet_ValueError ?xo_NoPick ?xa_NoPick ?xb_NoPick ?xc_NoPick ?xd_NoPick ?xe_NoPick ?xf_NoPick ?xm_NoPick_SumError ?kt_NoPick_NoNet ?kt_NoPick_NoPlace ?kt_NoPick_NoRoad ?kt_NoPick_NoSteps ?kt_NoPick_NoSum ?kt_NoPick_NoWay ?kt_NoPick_NoWorth ?kt_NoPick_ValueError ?xo_NoPlace ?xa_NoPlace ?xb_NoPlace ?xc_NoPlace ?xd_NoPlace ?xe_NoPlace ?xf_NoPlace ?xm_NoPlace_SumError ?kt_NoPlace_NoNet ?kt_NoPlace_NoPick ?kt_NoPlace_NoRoad ?kt_NoPlace_NoSteps ?kt_NoPlace_NoSum ?kt_NoPlace_NoWay ?kt_NoPlace_NoWorth ?kt_NoPlace_ValueError ?xo_NoRoad ?xa_NoRoad ?xb_NoRoad ?xc_NoRoad ?xd_NoRoad ?xe_NoRoad ?xf_NoRoad ?xm_NoRoad_SumError ?kt_NoRoad_NoNet ?kt_NoRoad_NoPick ?kt_NoRoad_NoPlace ?kt_NoRoad_NoSteps ?kt_NoRoad_NoSum ?kt_NoRoad_NoWay ?kt_NoRoad_NoWorth ?kt_NoRoad_ValueError ?xo_NoSteps ?xa_NoSteps ?xb_NoSteps ?xc_NoSteps ?xd_NoSteps ?xe_NoSteps ?xf_NoSteps ?xm_NoSteps_SumError ?kt_NoSteps_NoNet ?kt_NoSteps_NoPick ?kt_NoSteps_NoPlace ?kt_NoSteps_NoRoad ?kt_NoSteps_NoSum ?kt_NoSteps_NoWay ?kt_NoSteps_NoWorth ?kt_NoSteps_ValueError ?xo_NoSum ?xa_NoSum ?xb_NoSum ?xc_NoSum ?xd_NoSum ?xe_NoSum ?xf_NoSum ?xm_NoSum_SumError ?kt_NoSum_NoNet ?kt_NoSum_NoPick ?kt_NoSum_NoPlace ?kt_NoSum_NoRoad ?kt_NoSum_NoSteps ?kt_NoSum_NoWay ?kt_NoSum_NoWorth ?kt_NoSum_ValueError ?xo_NoWay ?xa_NoWay ?xb_NoWay ?xc_NoWay ?xd_NoWay ?xe_NoWay ?xf_NoWay ?xm_NoWay_SumError ?kt_NoWay_NoNet ?kt_NoWay_NoPick ?kt_NoWay_NoPlace ?kt_NoWay_NoRoad ?kt_NoWay_NoSteps ?kt_NoWay_NoSum ?kt_NoWay_NoWorth ?kt_NoWay_ValueError ?xo_NoWorth ?xa_NoWorth ?xb_NoWorth ?xc_NoWorth ?xd_NoWorth ?xe_NoWorth ?xf_NoWorth ?xm_NoWorth_SumError ?kt_NoWorth_NoNet ?kt_NoWorth_NoPick ?kt_NoWorth_NoPlace ?kt_NoWorth_NoRoad ?kt_NoWorth_NoSteps ?kt_NoWorth_NoSum ?kt_NoWorth_NoWay ?kt_NoWorth_ValueError ?mk_Fewest ?in_Fewest ?kp_Fewest ?mk_Widest ?in_Widest ?kp_Widest ?mk_Counted ?in_Counted ?kp_Counted ?mk_Likeliest ?in_Likeliest ?kp_Likeliest ?mk_Chances ?in_Chances ?kp_Chances ?mk_Musts ?in_Musts ?kp_Musts ?mk_Rests ?kp_Rests ?na_Rests_m ?mk_Net ?kp_Net ?na_Net_own_kind ?na_Net_how_many ?na_Net_own_roads ?pg_Net ?hd_Net ?po_Net ?sa_Net ?pg_Fewest ?hd_Fewest ?po_Fewest ?sa_Fewest ?pg_Widest ?hd_Widest ?po_Widest ?sa_Widest ?pg_Counted ?hd_Counted ?po_Counted ?sa_Counted ?pg_Likeliest ?hd_Likeliest ?po_Likeliest ?sa_Likeliest ?pg_Chances ?hd_Chances ?po_Chances ?sa_Chances ?pg_Musts ?hd_Musts ?po_Musts ?sa_Musts ?pg_Rests ?hd_Rests ?po_Rests ?sa_Rests ?ia_Fewest ?ib_Fewest ?ic_Fewest ?id_Fewest ?ia_Widest ?ib_Widest ?ic_Widest ?id_Widest ?ia_Counted ?ib_Counted ?ic_Counted ?id_Counted ?ia_Likeliest ?ib_Likeliest ?ic_Likeliest ?id_Likeliest ?ia_Chances ?ib_Chances ?ic_Chances ?id_Chances ?ia_Musts ?ib_Musts ?ic_Musts ?id_Musts ?ia_Rests ?ib_Rests ?ic_Rests ?id_Rests ?kt_Fewest_Chances ?kt_Widest_Chances ?kt_Counted_Chances ?kt_Likeliest_Chances ?kt_Chances_Chances ?kt_Musts_Chances ?kt_Rests_Chances ?aZ2c ?lZ2c ?cZ2c_ ?kZ2c ?aZ20 ?iZ20 ?lZ20 ?cZ20_ ?kZ20 ?aZ1h ?lZ1h ?cZ1h_ ?kZ1h ?aZ2j ?lZ2j ?cZ2j_ ?kZ2j ?aZ2m ?lZ2m ?cZ2m_ ?kZ2m ?aZ1w ?lZ1w ?cZ1w_ ?kZ1w ?aZ2h ?lZ2h ?cZ2h_ ?kZ2h ?aZv ?lZv ?cZv_ ?kZv ?aZ2i ?lZ2i ?cZ2i_ ?kZ2i ?aZ1n ?iZ1n ?lZ1n ?cZ1n_ ?kZ1n ?aZ1o ?iZ1o ?lZ1o ?cZ1o_ ?kZ1o ?aZ15 ?iZ15 ?lZ15 ?cZ15_ ?kZ15 ?aZn ?iZn ?lZn ?cZn_ ?kZn ?aZ17 ?iZ17 ?lZ17 ?cZ17_ ?kZ17 ?aZ1s ?iZ1s ?lZ1s ?cZ1s_ ?kZ1s ?aZ1z ?iZ1z ?lZ1z ?cZ1z_ ?kZ1z ?aZ1m ?iZ1m ?lZ1m ?cZ1m_ ?kZ1m ?aZ1p ?iZ1p ?lZ1p ?cZ1p_ ?kZ1p ?aZ1d ?iZ1d ?lZ1d ?cZ1d_ ?kZ1d ?aZm ?iZm ?lZm ?cZm_ ?kZm ?aZ1b ?iZ1b ?lZ1b ?cZ1b_ ?kZ1b ?aZ1q ?iZ1q ?lZ1q ?cZ1q_ ?kZ1q ?aZ1r ?iZ1r ?lZ1r ?cZ1r_ ?kZ1r ?aZj ?iZj ?lZj ?cZj_ ?kZj ?aZi ?iZi ?lZi ?cZi_ ?kZi ?aZb ?iZb ?lZb ?cZb_ ?kZb ?aZ8 ?iZ8 ?lZ8 ?cZ8_ ?kZ8 ?aZe ?iZe ?lZe ?cZe_ ?kZe ?aZo ?iZo ?lZo ?cZo_ ?kZo ?aZp ?iZp ?lZp ?cZp_ ?kZp ?aZy ?iZy ?lZy ?cZy_ ?kZy ?aZz ?iZz ?lZz ?cZz_ ?kZz ?aZt ?iZt ?lZt ?cZt_ ?kZt ?aZ9 ?iZ9 ?lZ9 ?cZ9_ ?kZ9 ?aZu ?iZu ?lZu ?cZu_ ?kZu ?aZ14 ?iZ14 ?lZ14 ?cZ14_ ?kZ14 ?aZ1e ?iZ1e ?lZ1e ?cZ1e_ ?kZ1e ?aZ11 ?iZ11 ?lZ11 ?cZ11_ ?kZ11 ?aZw ?iZw ?lZw ?cZw_ ?kZw ?aZr ?iZr ?lZr ?cZr_ ?kZr ?aZa ?iZa ?lZa ?cZa_ ?kZa ?aZs ?iZs ?lZs ?cZs_ ?kZs ?aZ19 ?iZ19 ?lZ19 ?cZ19_ ?kZ19 ?aZ18 ?iZ18 ?lZ18 ?cZ18_ ?kZ18 ?aZ2b ?lZ2b ?cZ2b_ ?kZ2b ?aZ25 ?lZ25 ?cZ25_ ?kZ25 ?aZh ?iZh ?lZh ?cZh_ ?kZh ?aZk ?iZk ?lZk ?cZk_ ?kZk ?aZd ?iZd ?lZd ?cZd_ ?kZd ?aZ7 ?iZ7 ?lZ7 ?cZ7_ ?kZ7 ?aZc ?iZc ?lZc ?cZc_ ?kZc ?aZq ?iZq ?lZq ?cZq_ ?kZq ?aZl ?iZl ?lZl ?cZl_ ?kZl ?aZ10 ?lZ10 ?cZ10_ ?kZ10 ?aZ1u ?lZ1u ?cZ1u_ ?kZ1u ?aZ4 ?iZ4 ?lZ4 ?cZ4_ ?kZ4 ?aZ3 ?iZ3 ?lZ3 ?cZ3_ ?kZ3 ?aZ2 ?iZ2 ?lZ2 ?cZ2_ ?kZ2 ?aZ0 ?iZ0 ?lZ0 ?cZ0_ ?kZ0 ?aZ1 ?iZ1 ?lZ1 ?cZ1_ ?kZ1 ?aZ6 ?iZ6 ?lZ6 ?cZ6_ ?kZ6 ?aZ5 ?iZ5 ?lZ5 ?cZ5_ ?kZ5 ?aZ13 ?lZ13 ?cZ13_ ?kZ13 ?aZ16 ?lZ16 ?cZ16_ ?kZ16 ?aZ27 ?iZ27 ?lZ27 ?cZ27_ ?kZ27 ?aZ29 ?iZ29 ?lZ29 ?cZ29_ ?kZ29 ?aZ1v ?iZ1v ?lZ1v ?cZ1v_ ?kZ1v ?aZ21 ?iZ21 ?lZ21 ?cZ21_ ?kZ21 ?aZ1l ?lZ1l ?cZ1l_ ?kZ1l ?aZ24 ?lZ24 ?cZ24_ ?kZ24 ?aZ26 ?lZ26 ?cZ26_ ?kZ26 ?aZ1j ?lZ1j ?cZ1j_ ?kZ1j ?aZ2k ?lZ2k ?cZ2k_ ?kZ2k ?aZ2d ?lZ2d ?cZ2d_ ?kZ2d ?aZ1x ?lZ1x ?cZ1x_ ?kZ1x ?aZ2l ?lZ2l ?cZ2l_ ?kZ2l ?aZ23 ?lZ23 ?cZ23_ ?kZ23 ?aZ1c ?iZ1c ?lZ1c ?cZ1c_ ?kZ1c ?aZ1g ?iZ1g ?lZ1g ?cZ1g_ ?kZ1g ?aZx ?iZx ?lZx ?cZx_ ?kZx ?aZf ?iZf ?lZf ?cZf_ ?kZf ?aZ12 ?iZ12 ?lZ12 ?cZ12_ ?kZ12 ?aZ1k ?iZ1k ?lZ1k ?cZ1k_ ?kZ1k ?aZ1i ?iZ1i ?lZ1i ?cZ1i_ ?kZ1i ?aZ2e ?lZ2e ?cZ2e_ ?kZ2e ?aZ2f ?lZ2f ?cZ2f_ ?kZ2f ?aZg ?lZg ?cZg_ ?kZg ?aZ2a ?lZ2a ?cZ2a_ ?kZ2a ?aZ2n ?lZ2n ?cZ2n_ ?kZ2n ?aZ2g ?lZ2g ?cZ2g_ ?kZ2g ?aZ22 ?lZ22 ?cZ22_ ?kZ22 ?aZ1y ?lZ1y ?cZ1y_ ?kZ1y ?aZ1a ?lZ1a ?cZ1a_ ?kZ1a ?aZ1f ?lZ1f ?cZ1f_ ?kZ1f ?aZ1t ?lZ1t ?cZ1t_ ?kZ1t ?aZ28 ?lZ28 ?cZ28_ ?kZ28 ?aZ2o ?lZ2o ?cZ2o_ ?kZ2o
    (case g_SumError => k_is)
    (case g_NoNet => k_is)
    (case g_NoWorth => k_is)
    (case g_NoPlace => k_is)
    (case g_NoRoad => k_is)
    (case g_NoSteps => k_is)
    (case g_NoPick => k_is)
    (case g_NoSum => k_is)
    (case g_NoWay => k_is)
    (case g_Kind => k_is)
    (case g_Fewest => k_is)
    (case g_Widest => k_is)
    (case g_Counted => k_is)
    (case g_Likeliest => k_is)
    (case g_Chances => k_is)
    (case g_Musts => k_is)
    (case g_Rests => k_is)
    (case g_Net => k_is)
    (case g_WIDEST => k_is)
    (case g_MOST_RESTS => k_is)
    (case g_MOST_PLACES => k_is)
    (case g_MOST_ROADS => k_is)
    (case g_MOST_STEPS => k_is)
    (case z_isinstance => k_is)
    (case z_len => k_is)
    (case z_int => k_is)
    (case z_tuple => k_is)
    (case z_list => k_is)
    (case z_ValueError => k_is)
    (case z_range => k_is)
    (case z_min => k_is)
    (case z_max => k_is)
    (case z_enumerate => k_is)
    (case xo_NoNet => k_exc)
    (case xa_NoNet => kernel_rfl)
    (case xb_NoNet => k_is)
    (case xc_NoNet => k_is)
    (case xd_NoNet => k_is)
    (case xe_NoNet => k_is)
    (case xf_NoNet => k_is)
    (case xm_NoNet_SumError => kernel_rfl)
    (case kt_NoNet_NoPick => kernel_rfl)
    (case kt_NoNet_NoPlace => kernel_rfl)
    (case kt_NoNet_NoRoad => kernel_rfl)
    (case kt_NoNet_NoSteps => kernel_rfl)
    (case kt_NoNet_NoSum => kernel_rfl)
    (case kt_NoNet_NoWay => kernel_rfl)
    (case kt_NoNet_NoWorth => kernel_rfl)
    (case kt_NoNet_ValueError => kernel_rfl)
    (case xo_NoPick => k_exc)
    (case xa_NoPick => kernel_rfl)
    (case xb_NoPick => k_is)
    (case xc_NoPick => k_is)
    (case xd_NoPick => k_is)
    (case xe_NoPick => k_is)
    (case xf_NoPick => k_is)
    (case xm_NoPick_SumError => kernel_rfl)
    (case kt_NoPick_NoNet => kernel_rfl)
    (case kt_NoPick_NoPlace => kernel_rfl)
    (case kt_NoPick_NoRoad => kernel_rfl)
    (case kt_NoPick_NoSteps => kernel_rfl)
    (case kt_NoPick_NoSum => kernel_rfl)
    (case kt_NoPick_NoWay => kernel_rfl)
    (case kt_NoPick_NoWorth => kernel_rfl)
    (case kt_NoPick_ValueError => kernel_rfl)
    (case xo_NoPlace => k_exc)
    (case xa_NoPlace => kernel_rfl)
    (case xb_NoPlace => k_is)
    (case xc_NoPlace => k_is)
    (case xd_NoPlace => k_is)
    (case xe_NoPlace => k_is)
    (case xf_NoPlace => k_is)
    (case xm_NoPlace_SumError => kernel_rfl)
    (case kt_NoPlace_NoNet => kernel_rfl)
    (case kt_NoPlace_NoPick => kernel_rfl)
    (case kt_NoPlace_NoRoad => kernel_rfl)
    (case kt_NoPlace_NoSteps => kernel_rfl)
    (case kt_NoPlace_NoSum => kernel_rfl)
    (case kt_NoPlace_NoWay => kernel_rfl)
    (case kt_NoPlace_NoWorth => kernel_rfl)
    (case kt_NoPlace_ValueError => kernel_rfl)
    (case xo_NoRoad => k_exc)
    (case xa_NoRoad => kernel_rfl)
    (case xb_NoRoad => k_is)
    (case xc_NoRoad => k_is)
    (case xd_NoRoad => k_is)
    (case xe_NoRoad => k_is)
    (case xf_NoRoad => k_is)
    (case xm_NoRoad_SumError => kernel_rfl)
    (case kt_NoRoad_NoNet => kernel_rfl)
    (case kt_NoRoad_NoPick => kernel_rfl)
    (case kt_NoRoad_NoPlace => kernel_rfl)
    (case kt_NoRoad_NoSteps => kernel_rfl)
    (case kt_NoRoad_NoSum => kernel_rfl)
    (case kt_NoRoad_NoWay => kernel_rfl)
    (case kt_NoRoad_NoWorth => kernel_rfl)
    (case kt_NoRoad_ValueError => kernel_rfl)
    (case xo_NoSteps => k_exc)
    (case xa_NoSteps => kernel_rfl)
    (case xb_NoSteps => k_is)
    (case xc_NoSteps => k_is)
    (case xd_NoSteps => k_is)
    (case xe_NoSteps => k_is)
    (case xf_NoSteps => k_is)
    (case xm_NoSteps_SumError => kernel_rfl)
    (case kt_NoSteps_NoNet => kernel_rfl)
    (case kt_NoSteps_NoPick => kernel_rfl)
    (case kt_NoSteps_NoPlace => kernel_rfl)
    (case kt_NoSteps_NoRoad => kernel_rfl)
    (case kt_NoSteps_NoSum => kernel_rfl)
    (case kt_NoSteps_NoWay => kernel_rfl)
    (case kt_NoSteps_NoWorth => kernel_rfl)
    (case kt_NoSteps_ValueError => kernel_rfl)
    (case xo_NoSum => k_exc)
    (case xa_NoSum => kernel_rfl)
    (case xb_NoSum => k_is)
    (case xc_NoSum => k_is)
    (case xd_NoSum => k_is)
    (case xe_NoSum => k_is)
    (case xf_NoSum => k_is)
    (case xm_NoSum_SumError => kernel_rfl)
    (case kt_NoSum_NoNet => kernel_rfl)
    (case kt_NoSum_NoPick => kernel_rfl)
    (case kt_NoSum_NoPlace => kernel_rfl)
    (case kt_NoSum_NoRoad => kernel_rfl)
    (case kt_NoSum_NoSteps => kernel_rfl)
    (case kt_NoSum_NoWay => kernel_rfl)
    (case kt_NoSum_NoWorth => kernel_rfl)
    (case kt_NoSum_ValueError => kernel_rfl)
    (case xo_NoWay => k_exc)
    (case xa_NoWay => kernel_rfl)
    (case xb_NoWay => k_is)
    (case xc_NoWay => k_is)
    (case xd_NoWay => k_is)
    (case xe_NoWay => k_is)
    (case xf_NoWay => k_is)
    (case xm_NoWay_SumError => kernel_rfl)
    (case kt_NoWay_NoNet => kernel_rfl)
    (case kt_NoWay_NoPick => kernel_rfl)
    (case kt_NoWay_NoPlace => kernel_rfl)
    (case kt_NoWay_NoRoad => kernel_rfl)
    (case kt_NoWay_NoSteps => kernel_rfl)
    (case kt_NoWay_NoSum => kernel_rfl)
    (case kt_NoWay_NoWorth => kernel_rfl)
    (case kt_NoWay_ValueError => kernel_rfl)
    (case xo_NoWorth => k_exc)
    (case xa_NoWorth => kernel_rfl)
    (case xb_NoWorth => k_is)
    (case xc_NoWorth => k_is)
    (case xd_NoWorth => k_is)
    (case xe_NoWorth => k_is)
    (case xf_NoWorth => k_is)
    (case xm_NoWorth_SumError => kernel_rfl)
    (case kt_NoWorth_NoNet => kernel_rfl)
    (case kt_NoWorth_NoPick => kernel_rfl)
    (case kt_NoWorth_NoPlace => kernel_rfl)
    (case kt_NoWorth_NoRoad => kernel_rfl)
    (case kt_NoWorth_NoSteps => kernel_rfl)
    (case kt_NoWorth_NoSum => kernel_rfl)
    (case kt_NoWorth_NoWay => kernel_rfl)
    (case kt_NoWorth_ValueError => kernel_rfl)
    (case mk_Fewest => k_is)
    (case in_Fewest => k_is)
    (case kp_Fewest => k_is)
    (case mk_Widest => k_is)
    (case in_Widest => k_is)
    (case kp_Widest => k_is)
    (case mk_Counted => k_is)
    (case in_Counted => k_is)
    (case kp_Counted => k_is)
    (case mk_Likeliest => k_is)
    (case in_Likeliest => k_is)
    (case kp_Likeliest => k_is)
    (case mk_Chances => k_is)
    (case in_Chances => k_is)
    (case kp_Chances => k_is)
    (case mk_Musts => k_is)
    (case in_Musts => k_is)
    (case kp_Musts => k_is)
    (case mk_Rests => k_is)
    (case kp_Rests => k_is)
    (case na_Rests_m => k_is)
    (case mk_Net => k_is)
    (case kp_Net => k_is)
    (case na_Net_own_kind => k_is)
    (case na_Net_how_many => k_is)
    (case na_Net_own_roads => k_is)
    (case pg_Net => k_is)
    (case hd_Net => k_is)
    (case po_Net => k_is)
    (case sa_Net => k_is)
    (case pg_Fewest => k_is)
    (case hd_Fewest => k_is)
    (case po_Fewest => k_is)
    (case sa_Fewest => k_is)
    (case pg_Widest => k_is)
    (case hd_Widest => k_is)
    (case po_Widest => k_is)
    (case sa_Widest => k_is)
    (case pg_Counted => k_is)
    (case hd_Counted => k_is)
    (case po_Counted => k_is)
    (case sa_Counted => k_is)
    (case pg_Likeliest => k_is)
    (case hd_Likeliest => k_is)
    (case po_Likeliest => k_is)
    (case sa_Likeliest => k_is)
    (case pg_Chances => k_is)
    (case hd_Chances => k_is)
    (case po_Chances => k_is)
    (case sa_Chances => k_is)
    (case pg_Musts => k_is)
    (case hd_Musts => k_is)
    (case po_Musts => k_is)
    (case sa_Musts => k_is)
    (case pg_Rests => k_is)
    (case hd_Rests => k_is)
    (case po_Rests => k_is)
    (case sa_Rests => k_is)
    (case ia_Fewest => k_is)
    (case ib_Fewest => k_is)
    (case ic_Fewest => k_is)
    (case id_Fewest => k_is)
    (case ia_Widest => k_is)
    (case ib_Widest => k_is)
    (case ic_Widest => k_is)
    (case id_Widest => k_is)
    (case ia_Counted => k_is)
    (case ib_Counted => k_is)
    (case ic_Counted => k_is)
    (case id_Counted => k_is)
    (case ia_Likeliest => k_is)
    (case ib_Likeliest => k_is)
    (case ic_Likeliest => k_is)
    (case id_Likeliest => k_is)
    (case ia_Chances => k_is)
    (case ib_Chances => k_is)
    (case ic_Chances => k_is)
    (case id_Chances => k_is)
    (case ia_Musts => k_is)
    (case ib_Musts => k_is)
    (case ic_Musts => k_is)
    (case id_Musts => k_is)
    (case ia_Rests => k_is)
    (case ib_Rests => k_is)
    (case ic_Rests => k_is)
    (case id_Rests => k_is)
    (case kt_Fewest_Chances => kernel_rfl)
    (case kt_Widest_Chances => kernel_rfl)
    (case kt_Counted_Chances => kernel_rfl)
    (case kt_Likeliest_Chances => kernel_rfl)
    (case kt_Chances_Chances => kernel_rfl)
    (case kt_Musts_Chances => kernel_rfl)
    (case kt_Rests_Chances => kernel_rfl)
    (case aZ2c => k_is)
    (case lZ2c => k_is)
    (case cZ2c_ => k_is)
    (case kZ2c => k_is)
    (case aZ20 => k_is)
    (case iZ20 => k_is)
    (case lZ20 => k_is)
    (case cZ20_ => k_is)
    (case kZ20 => k_is)
    (case aZ1h => k_is)
    (case lZ1h => k_is)
    (case cZ1h_ => k_is)
    (case kZ1h => k_is)
    (case aZ2j => k_is)
    (case lZ2j => k_is)
    (case cZ2j_ => k_is)
    (case kZ2j => k_is)
    (case aZ2m => k_is)
    (case lZ2m => k_is)
    (case cZ2m_ => k_is)
    (case kZ2m => k_is)
    (case aZ1w => k_is)
    (case lZ1w => k_is)
    (case cZ1w_ => k_is)
    (case kZ1w => k_is)
    (case aZ2h => k_is)
    (case lZ2h => k_is)
    (case cZ2h_ => k_is)
    (case kZ2h => k_is)
    (case aZv => k_is)
    (case lZv => k_is)
    (case cZv_ => k_is)
    (case kZv => k_is)
    (case aZ2i => k_is)
    (case lZ2i => k_is)
    (case cZ2i_ => k_is)
    (case kZ2i => k_is)
    (case aZ1n => k_is)
    (case iZ1n => k_is)
    (case lZ1n => k_is)
    (case cZ1n_ => k_is)
    (case kZ1n => k_is)
    (case aZ1o => k_is)
    (case iZ1o => k_is)
    (case lZ1o => k_is)
    (case cZ1o_ => k_is)
    (case kZ1o => k_is)
    (case aZ15 => k_is)
    (case iZ15 => k_is)
    (case lZ15 => k_is)
    (case cZ15_ => k_is)
    (case kZ15 => k_is)
    (case aZn => k_is)
    (case iZn => k_is)
    (case lZn => k_is)
    (case cZn_ => k_is)
    (case kZn => k_is)
    (case aZ17 => k_is)
    (case iZ17 => k_is)
    (case lZ17 => k_is)
    (case cZ17_ => k_is)
    (case kZ17 => k_is)
    (case aZ1s => k_is)
    (case iZ1s => k_is)
    (case lZ1s => k_is)
    (case cZ1s_ => k_is)
    (case kZ1s => k_is)
    (case aZ1z => k_is)
    (case iZ1z => k_is)
    (case lZ1z => k_is)
    (case cZ1z_ => k_is)
    (case kZ1z => k_is)
    (case aZ1m => k_is)
    (case iZ1m => k_is)
    (case lZ1m => k_is)
    (case cZ1m_ => k_is)
    (case kZ1m => k_is)
    (case aZ1p => k_is)
    (case iZ1p => k_is)
    (case lZ1p => k_is)
    (case cZ1p_ => k_is)
    (case kZ1p => k_is)
    (case aZ1d => k_is)
    (case iZ1d => k_is)
    (case lZ1d => k_is)
    (case cZ1d_ => k_is)
    (case kZ1d => k_is)
    (case aZm => k_is)
    (case iZm => k_is)
    (case lZm => k_is)
    (case cZm_ => k_is)
    (case kZm => k_is)
    (case aZ1b => k_is)
    (case iZ1b => k_is)
    (case lZ1b => k_is)
    (case cZ1b_ => k_is)
    (case kZ1b => k_is)
    (case aZ1q => k_is)
    (case iZ1q => k_is)
    (case lZ1q => k_is)
    (case cZ1q_ => k_is)
    (case kZ1q => k_is)
    (case aZ1r => k_is)
    (case iZ1r => k_is)
    (case lZ1r => k_is)
    (case cZ1r_ => k_is)
    (case kZ1r => k_is)
    (case aZj => k_is)
    (case iZj => k_is)
    (case lZj => k_is)
    (case cZj_ => k_is)
    (case kZj => k_is)
    (case aZi => k_is)
    (case iZi => k_is)
    (case lZi => k_is)
    (case cZi_ => k_is)
    (case kZi => k_is)
    (case aZb => k_is)
    (case iZb => k_is)
    (case lZb => k_is)
    (case cZb_ => k_is)
    (case kZb => k_is)
    (case aZ8 => k_is)
    (case iZ8 => k_is)
    (case lZ8 => k_is)
    (case cZ8_ => k_is)
    (case kZ8 => k_is)
    (case aZe => k_is)
    (case iZe => k_is)
    (case lZe => k_is)
    (case cZe_ => k_is)
    (case kZe => k_is)
    (case aZo => k_is)
    (case iZo => k_is)
    (case lZo => k_is)
    (case cZo_ => k_is)
    (case kZo => k_is)
    (case aZp => k_is)
    (case iZp => k_is)
    (case lZp => k_is)
    (case cZp_ => k_is)
    (case kZp => k_is)
    (case aZy => k_is)
    (case iZy => k_is)
    (case lZy => k_is)
    (case cZy_ => k_is)
    (case kZy => k_is)
    (case aZz => k_is)
    (case iZz => k_is)
    (case lZz => k_is)
    (case cZz_ => k_is)
    (case kZz => k_is)
    (case aZt => k_is)
    (case iZt => k_is)
    (case lZt => k_is)
    (case cZt_ => k_is)
    (case kZt => k_is)
    (case aZ9 => k_is)
    (case iZ9 => k_is)
    (case lZ9 => k_is)
    (case cZ9_ => k_is)
    (case kZ9 => k_is)
    (case aZu => k_is)
    (case iZu => k_is)
    (case lZu => k_is)
    (case cZu_ => k_is)
    (case kZu => k_is)
    (case aZ14 => k_is)
    (case iZ14 => k_is)
    (case lZ14 => k_is)
    (case cZ14_ => k_is)
    (case kZ14 => k_is)
    (case aZ1e => k_is)
    (case iZ1e => k_is)
    (case lZ1e => k_is)
    (case cZ1e_ => k_is)
    (case kZ1e => k_is)
    (case aZ11 => k_is)
    (case iZ11 => k_is)
    (case lZ11 => k_is)
    (case cZ11_ => k_is)
    (case kZ11 => k_is)
    (case aZw => k_is)
    (case iZw => k_is)
    (case lZw => k_is)
    (case cZw_ => k_is)
    (case kZw => k_is)
    (case aZr => k_is)
    (case iZr => k_is)
    (case lZr => k_is)
    (case cZr_ => k_is)
    (case kZr => k_is)
    (case aZa => k_is)
    (case iZa => k_is)
    (case lZa => k_is)
    (case cZa_ => k_is)
    (case kZa => k_is)
    (case aZs => k_is)
    (case iZs => k_is)
    (case lZs => k_is)
    (case cZs_ => k_is)
    (case kZs => k_is)
    (case aZ19 => k_is)
    (case iZ19 => k_is)
    (case lZ19 => k_is)
    (case cZ19_ => k_is)
    (case kZ19 => k_is)
    (case aZ18 => k_is)
    (case iZ18 => k_is)
    (case lZ18 => k_is)
    (case cZ18_ => k_is)
    (case kZ18 => k_is)
    (case aZ2b => k_is)
    (case lZ2b => k_is)
    (case cZ2b_ => k_is)
    (case kZ2b => k_is)
    (case aZ25 => k_is)
    (case lZ25 => k_is)
    (case cZ25_ => k_is)
    (case kZ25 => k_is)
    (case aZh => k_is)
    (case iZh => k_is)
    (case lZh => k_is)
    (case cZh_ => k_is)
    (case kZh => k_is)
    (case aZk => k_is)
    (case iZk => k_is)
    (case lZk => k_is)
    (case cZk_ => k_is)
    (case kZk => k_is)
    (case aZd => k_is)
    (case iZd => k_is)
    (case lZd => k_is)
    (case cZd_ => k_is)
    (case kZd => k_is)
    (case aZ7 => k_is)
    (case iZ7 => k_is)
    (case lZ7 => k_is)
    (case cZ7_ => k_is)
    (case kZ7 => k_is)
    (case aZc => k_is)
    (case iZc => k_is)
    (case lZc => k_is)
    (case cZc_ => k_is)
    (case kZc => k_is)
    (case aZq => k_is)
    (case iZq => k_is)
    (case lZq => k_is)
    (case cZq_ => k_is)
    (case kZq => k_is)
    (case aZl => k_is)
    (case iZl => k_is)
    (case lZl => k_is)
    (case cZl_ => k_is)
    (case kZl => k_is)
    (case aZ10 => k_is)
    (case lZ10 => k_is)
    (case cZ10_ => k_is)
    (case kZ10 => k_is)
    (case aZ1u => k_is)
    (case lZ1u => k_is)
    (case cZ1u_ => k_is)
    (case kZ1u => k_is)
    (case aZ4 => k_is)
    (case iZ4 => k_is)
    (case lZ4 => k_is)
    (case cZ4_ => k_is)
    (case kZ4 => k_is)
    (case aZ3 => k_is)
    (case iZ3 => k_is)
    (case lZ3 => k_is)
    (case cZ3_ => k_is)
    (case kZ3 => k_is)
    (case aZ2 => k_is)
    (case iZ2 => k_is)
    (case lZ2 => k_is)
    (case cZ2_ => k_is)
    (case kZ2 => k_is)
    (case aZ0 => k_is)
    (case iZ0 => k_is)
    (case lZ0 => k_is)
    (case cZ0_ => k_is)
    (case kZ0 => k_is)
    (case aZ1 => k_is)
    (case iZ1 => k_is)
    (case lZ1 => k_is)
    (case cZ1_ => k_is)
    (case kZ1 => k_is)
    (case aZ6 => k_is)
    (case iZ6 => k_is)
    (case lZ6 => k_is)
    (case cZ6_ => k_is)
    (case kZ6 => k_is)
    (case aZ5 => k_is)
    (case iZ5 => k_is)
    (case lZ5 => k_is)
    (case cZ5_ => k_is)
    (case kZ5 => k_is)
    (case aZ13 => k_is)
    (case lZ13 => k_is)
    (case cZ13_ => k_is)
    (case kZ13 => k_is)
    (case aZ16 => k_is)
    (case lZ16 => k_is)
    (case cZ16_ => k_is)
    (case kZ16 => k_is)
    (case aZ27 => k_is)
    (case iZ27 => k_is)
    (case lZ27 => k_is)
    (case cZ27_ => k_is)
    (case kZ27 => k_is)
    (case aZ29 => k_is)
    (case iZ29 => k_is)
    (case lZ29 => k_is)
    (case cZ29_ => k_is)
    (case kZ29 => k_is)
    (case aZ1v => k_is)
    (case iZ1v => k_is)
    (case lZ1v => k_is)
    (case cZ1v_ => k_is)
    (case kZ1v => k_is)
    (case aZ21 => k_is)
    (case iZ21 => k_is)
    (case lZ21 => k_is)
    (case cZ21_ => k_is)
    (case kZ21 => k_is)
    (case aZ1l => k_is)
    (case lZ1l => k_is)
    (case cZ1l_ => k_is)
    (case kZ1l => k_is)
    (case aZ24 => k_is)
    (case lZ24 => k_is)
    (case cZ24_ => k_is)
    (case kZ24 => k_is)
    (case aZ26 => k_is)
    (case lZ26 => k_is)
    (case cZ26_ => k_is)
    (case kZ26 => k_is)
    (case aZ1j => k_is)
    (case lZ1j => k_is)
    (case cZ1j_ => k_is)
    (case kZ1j => k_is)
    (case aZ2k => k_is)
    (case lZ2k => k_is)
    (case cZ2k_ => k_is)
    (case kZ2k => k_is)
    (case aZ2d => k_is)
    (case lZ2d => k_is)
    (case cZ2d_ => k_is)
    (case kZ2d => k_is)
    (case aZ1x => k_is)
    (case lZ1x => k_is)
    (case cZ1x_ => k_is)
    (case kZ1x => k_is)
    (case aZ2l => k_is)
    (case lZ2l => k_is)
    (case cZ2l_ => k_is)
    (case kZ2l => k_is)
    (case aZ23 => k_is)
    (case lZ23 => k_is)
    (case cZ23_ => k_is)
    (case kZ23 => k_is)
    (case aZ1c => k_is)
    (case iZ1c => k_is)
    (case lZ1c => k_is)
    (case cZ1c_ => k_is)
    (case kZ1c => k_is)
    (case aZ1g => k_is)
    (case iZ1g => k_is)
    (case lZ1g => k_is)
    (case cZ1g_ => k_is)
    (case kZ1g => k_is)
    (case aZx => k_is)
    (case iZx => k_is)
    (case lZx => k_is)
    (case cZx_ => k_is)
    (case kZx => k_is)
    (case aZf => k_is)
    (case iZf => k_is)
    (case lZf => k_is)
    (case cZf_ => k_is)
    (case kZf => k_is)
    (case aZ12 => k_is)
    (case iZ12 => k_is)
    (case lZ12 => k_is)
    (case cZ12_ => k_is)
    (case kZ12 => k_is)
    (case aZ1k => k_is)
    (case iZ1k => k_is)
    (case lZ1k => k_is)
    (case cZ1k_ => k_is)
    (case kZ1k => k_is)
    (case aZ1i => k_is)
    (case iZ1i => k_is)
    (case lZ1i => k_is)
    (case cZ1i_ => k_is)
    (case kZ1i => k_is)
    (case aZ2e => k_is)
    (case lZ2e => k_is)
    (case cZ2e_ => k_is)
    (case kZ2e => k_is)
    (case aZ2f => k_is)
    (case lZ2f => k_is)
    (case cZ2f_ => k_is)
    (case kZ2f => k_is)
    (case aZg => k_is)
    (case lZg => k_is)
    (case cZg_ => k_is)
    (case kZg => k_is)
    (case aZ2a => k_is)
    (case lZ2a => k_is)
    (case cZ2a_ => k_is)
    (case kZ2a => k_is)
    (case aZ2n => k_is)
    (case lZ2n => k_is)
    (case cZ2n_ => k_is)
    (case kZ2n => k_is)
    (case aZ2g => k_is)
    (case lZ2g => k_is)
    (case cZ2g_ => k_is)
    (case kZ2g => k_is)
    (case aZ22 => k_is)
    (case lZ22 => k_is)
    (case cZ22_ => k_is)
    (case kZ22 => k_is)
    (case aZ1y => k_is)
    (case lZ1y => k_is)
    (case cZ1y_ => k_is)
    (case kZ1y => k_is)
    (case aZ1a => k_is)
    (case lZ1a => k_is)
    (case cZ1a_ => k_is)
    (case kZ1a => k_is)
    (case aZ1f => k_is)
    (case lZ1f => k_is)
    (case cZ1f_ => k_is)
    (case kZ1f => k_is)
    (case aZ1t => k_is)
    (case lZ1t => k_is)
    (case cZ1t_ => k_is)
    (case kZ1t => k_is)
    (case aZ28 => k_is)
    (case lZ28 => k_is)
    (case cZ28_ => k_is)
    (case kZ28 => k_is)
    (case aZ2o => k_is)
    (case lZ2o => k_is)
    (case cZ2o_ => k_is)
    (case kZ2o => k_is)
#print axioms PySem.Challenge.cw_waysum_k15_each_refusal_its_own_holds
