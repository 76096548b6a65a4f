import PyProof.Rows.All
import Wide.All
import OpenK.AllK
import Wide.FinOn
import Lean
import PyProof.EqAt
import PyProof.EqKinds
import PyProof.TupleCall
import PySem.Challenge.RW_waysum_k10_whole_how_many_ways
set_option linter.all false
set_option Elab.async false
set_option maxHeartbeats 4000000
set_option maxRecDepth 100000
set_option Elab.async false
set_option linter.all false
set_option maxRecDepth 100000
namespace L2
open PySem PySem.Spec PyProof.Rows
abbrev Key:=Sum Int Str
def keyIs:Key→Value→Bool
  | .inl k,v=>Value.isInt k v
  | .inr x,v=>Value.isStrOf x v
def keyH (w:World):Key→Int
  | .inl k=>hashInt k
  | .inr x=>hashStr w x
theorem keyIs_shape:∀ {k:Key} {v:Value},keyIs k v=true→(∃ i t,k=Sum.inl i∧v=Value.int i t)∨(∃ x t,k=Sum.inr x∧v=Value.str x t)
  | .inl i,v,h=>by
    obtain ⟨t,e⟩:=Value.isInt_shape (k:=i) (v:=v) h
    exact .inl ⟨i,t,rfl,e⟩
  | .inr x,v,h=>by
    obtain ⟨t,e⟩:=Value.isStrOf_shape (x:=x) (v:=v) h
    exact .inr ⟨x,t,rfl,e⟩
theorem key_ll (a b:Int):decide ((Sum.inl a:Key)=Sum.inl b)=(a == b):=by
  by_cases e:a=b
  · subst e; simp
  · have h:¬ (Sum.inl a:Key)=Sum.inl b:=fun q=>e (Sum.inl.inj q)
    rw [decide_eq_false h]
    exact (beq_eq_false_iff_ne.mpr e).symm
theorem key_rr (a b:Str):decide ((Sum.inr a:Key)=Sum.inr b)=decide (a=b):=by
  by_cases e:a=b
  · subst e; simp
  · have h:¬ (Sum.inr a:Key)=Sum.inr b:=fun q=>e (Sum.inr.inj q)
    rw [decide_eq_false h,decide_eq_false e]
theorem key_lr (a:Int) (b:Str):decide ((Sum.inl a:Key)=Sum.inr b)=false:=decide_eq_false (fun q=>nomatch q)
theorem key_rl (a:Str) (b:Int):decide ((Sum.inr a:Key)=Sum.inl b)=false:=decide_eq_false (fun q=>nomatch q)
def mixKind (prog:Program) (w:World):PySem.KeyKind prog w Key where
  is:=keyIs
  hash:=keyH w
  inj:=fun v a b ha hb=>by
    rcases keyIs_shape ha with ⟨i,t,rfl,rfl⟩ | ⟨x,t,rfl,rfl⟩
    · rcases keyIs_shape hb with ⟨j,u,rfl,e⟩ | ⟨y,u,rfl,e⟩
      · injection e with e1 _; rw [e1]
      · exact nomatch e
    · rcases keyIs_shape hb with ⟨j,u,rfl,e⟩ | ⟨y,u,rfl,e⟩
      · exact nomatch e
      · injection e with e1 _; rw [e1]
  byValue:=fun k v h=>by
    rcases keyIs_shape h with ⟨i,t,rfl,rfl⟩ | ⟨x,t,rfl,rfl⟩ <;> rfl
  pyHash:=fun hv h=>by
    rcases keyIs_shape hv with ⟨i,t,rfl,rfl⟩ | ⟨x,t,rfl,rfl⟩
    · exact wpAny_pyHash_int h
    · exact wpAny_pyHash_str h
  eqBool:=fun hu hv h=>by
    rcases keyIs_shape hu with ⟨i,t,rfl,rfl⟩ | ⟨x,t,rfl,rfl⟩
    · rcases keyIs_shape hv with ⟨j,u,rfl,rfl⟩ | ⟨y,u,rfl,rfl⟩
      · rw [key_ll] at h; exact wpAny_eqBool_int h
      · rw [key_lr] at h; exact SeqAt.EqAt.int_str i t y u _ _ _ _ h
    · rcases keyIs_shape hv with ⟨j,u,rfl,rfl⟩ | ⟨y,u,rfl,rfl⟩
      · rw [key_rl] at h; exact SeqAt.EqAt.str_int x t j u _ _ _ _ h
      · rw [key_rr] at h; exact wpAny_eqBool_str h
  «strs»:=fun k x t v h=>by
    rcases keyIs_shape h with ⟨i,u,rfl,e⟩ | ⟨y,u,rfl,e⟩
    · exact nomatch e
    · injection e with e1 _
      subst e1
      cases v <;> rfl
end L2
namespace L2
open PySem PySem.Spec PyProof.Rows
inductive V where
  | non | bl (b:Bool) | int (i:Int) | str (x:Str) | byt (b:Array UInt8) | flt (b:UInt64) | ref (a:Addr) | ty (n:String)
  deriving DecidableEq
def RelV:V→Value→Prop
  | .non,u=>u=Value.none
  | .bl b,u=>u=Value.bool b
  | .int i,u=>∃ t,u=Value.int i t
  | .str x,u=>∃ t,u=Value.str x t
  | .byt b,u=>∃ t,u=Value.bytes b t
  | .flt b,u=>∃ t,u=Value.float b t
  | .ref a,u=>u=Value.ref a
  | .ty n,u=>u=Value.type n
abbrev Vals:List V→List Value→Prop:=Paired RelV
theorem Vals.length {xs:List V} {us:List Value} (r:Vals xs us):xs.length=us.length:=Paired.length r
theorem Vals.get:∀ {xs:List V} {us:List Value} {i:Nat} {x:V},Vals xs us→xs[i]?=some x→∃ u,us[i]?=some u∧RelV x u
  | _,_,_,_,.nil,e=>by simp at e
  | _,_,0,_,.cons r _,e=>by simp at e; subst e; exact ⟨_,rfl,r⟩
  | _,_,i + 1,x,.cons _ t,e=>by
    obtain ⟨u,h1,h2⟩:=Vals.get (i:=i) (x:=x) t (by simpa using e)
    exact ⟨u,by simpa using h1,h2⟩
theorem Vals.set {x:V} {u:Value} (r:RelV x u):∀ {xs:List V} {us:List Value} (i:Nat),Vals xs us→Vals (xs.set i x) (us.set i u)
  | _,_,_,.nil=>.nil
  | _,_,0,.cons _ t=>.cons r t
  | _,_,i + 1,.cons q t=>.cons q (Vals.set r i t)
theorem Vals.append:∀ {xs ys:List V} {us ws:List Value},Vals xs us→Vals ys ws→Vals (xs ++ ys) (us ++ ws)
  | _,_,_,_,.nil,s=>s
  | _,_,_,_,.cons r t,s=>.cons r (Vals.append t s)
theorem Vals.take:∀ {xs:List V} {us:List Value} (n:Nat),Vals xs us→Vals (xs.take n) (us.take n)
  | _,_,0,_=>.nil
  | _,_,_ + 1,.nil=>.nil
  | _,_,n + 1,.cons r t=>.cons r (Vals.take n t)
theorem Vals.drop:∀ {xs:List V} {us:List Value} (n:Nat),Vals xs us→Vals (xs.drop n) (us.drop n)
  | _,_,0,r=>r
  | _,_,_ + 1,.nil=>.nil
  | _,_,n + 1,.cons _ t=>Vals.drop n t
def RelO:Option V→Option Value→Prop
  | some v,some u=>RelV v u
  | none,none=>True
  | _,_=>False
def KV {κ:Type}:List (κ × V)→List (κ × Value)→Prop:=Paired fun (p:κ × V) (q:κ × Value)=>p.1=q.1∧RelV p.2 q.2
def kV:Key→V
  | .inl i=>.int i
  | .inr x=>.str x
inductive HO where
  | lst (xs:List V)
  | tup (xs:List V)
  | dK (kvs:List (Key × V)) | dT (kvs:List (List Key × V))
  | set (S:Int→Bool) (n:Nat)
  | ins (C dx:Addr) (fs:List (Str × V))
  | own (x:Addr)
  | xd (fs:List (Str × V))
  | met (f x:Addr)
  | rng (lo hi:Int)
  | frz (o:Obj) (u:HO)
  | tbl (ps:Array Value)
  | ext (φ:Heap→Prop)
abbrev Hp:=Addr→Option HO
def upd (H:Hp) (a:Addr) (o:HO):Hp:=fun b=>if b=a then some o else H b
theorem upd_same {H:Hp} {a:Addr} {o:HO}:upd H a o a=some o:=by unfold upd; rw [if_pos rfl]
theorem upd_ne {H:Hp} {a b:Addr} {o:HO} (h:b≠a):upd H a o b=H b:=by unfold upd; rw [if_neg h]
theorem ne_of {H:Hp} {a b:Addr} {o u:HO} (h:H a=some o) (h':H b=some u) (d:o≠u):a≠b:=by
  intro e; subst e; rw [h] at h'; exact d (Option.some.inj h')
theorem ne_of_none {H:Hp} {a b:Addr} {o:HO} (h:H a=some o) (h':H b=none):a≠b:=by
  intro e; subst e; rw [h] at h'; cases h'
section
variable (P : Program) (w : World)
def ObjOk (H:Hp) (h:Heap) (a:Addr):HO→Prop
  | .lst xs=>xs.length≤sizeLine∧∃ (its:List Value) (n:Nat),Vals xs its∧h.get? a=some { cls:=.type "list",data:=.seq its.toArray n }
  | .tup xs=>xs.length≤sizeLine∧∃ its:List Value,Vals xs its∧IsTup h a its.toArray
  | .dK kvs=>kvs.length≤sizeLine∧(a == sysModules)=false∧∃ vs,KV kvs vs∧h.DictOf (mixKind P w) a vs
  | .dT kvs=>kvs.length≤sizeLine∧(a == sysModules)=false∧∃ xs:List (List Key × Addr × Value),
      Paired (fun (p:List Key × V) (q:List Key × Addr × Value)=>p.1=q.1∧H q.2.1=some (.tup (p.1.map kV))∧RelV p.2 q.2.2) kvs xs ∧
      ∃ o es ep,h.get? a=some o∧o.ExactDict∧o.data=.dict es ep∧es.toList=xs.map (entryOfKey (tupleKind (mixKind P w)))∧(xs.map (·.1)).Nodup
  | .set S n=>h.SetOf (intKind P w) a S n
  | .ins C dx fs=>H dx=some (.own a)∧fs.length≤1000∧dx≠a∧h.get? a=some (PySem.W.instObj C dx) ∧
      ∃ mA,h.Ns1 dx mA∧(∀ f,RelO (fs.lookup f) (mA f))∧PySem.Within mA (fs.map (·.1))
  | .own _=>∃ o,h.get? a=some o
  | .xd fs=>∃ mA,h.Ns1 a mA∧∀ f,RelO (fs.lookup f) (mA f)
  | .rng lo hi=>∃ t u v,h.get? a=some { cls:=.type "range",data:=.fields #[.int lo t,.int hi u,.int 1 v] }
  | .frz o u=>h.get? a=some o∧ObjOk H h a u
  | .tbl ps=>h.get? a=some { cls:=.none,data:=.fields ps }
  | .met f x=>h.get? a=some (PySem.W.methodObj (.ref f) (.ref x))
  | .ext φ=>φ h∧(∃ o,h.get? a=some o)∧∀ h1 h2:Heap,φ h1→(∀ o,h1.get? a=some o→h2.get? a=some o)→φ h2
def HOk (H:Hp) (h:Heap):Prop:=∀ a o,H a=some o→ObjOk P w H h a o
end
section
variable {P : Program} {w : World} {H H' : Hp} {h h' : Heap} {a : Addr} {o : HO}
theorem ObjOk.lt (x:ObjOk P w H h a o):a < h.objs.size:=by
  cases o with
  | lst xs=>obtain ⟨_,_,_,_,e⟩:=x; exact Heap.lt_size e
  | tup xs=>obtain ⟨_,_,_,p⟩:=x; exact p.lt
  | dK kvs=>obtain ⟨_,_,_,_,o,_,_,e,_⟩:=x; exact Heap.lt_size e
  | dT kvs=>obtain ⟨_,_,_,_,o,_,_,e,_⟩:=x; exact Heap.lt_size e
  | set S n=>obtain ⟨o,_,_,_,e,_⟩:=x; exact Heap.lt_size e
  | ins C dx fs=>obtain ⟨_,_,_,e,_⟩:=x; exact Heap.lt_size e
  | own y=>obtain ⟨_,e⟩:=x; exact Heap.lt_size e
  | xd fs=>obtain ⟨_,⟨_,_,_,e,_⟩,_⟩:=x; exact Heap.lt_size e
  | rng lo hi=>obtain ⟨_,_,_,e⟩:=x; exact Heap.lt_size e
  | frz ob u=>obtain ⟨e,_⟩:=x; exact Heap.lt_size e
  | tbl ps=>exact Heap.lt_size (show h.get? a=some _ from x)
  | met f y=>exact Heap.lt_size (show h.get? a=some _ from x)
  | ext φ=>obtain ⟨_,⟨_,e⟩,_⟩:=x; exact Heap.lt_size e
theorem Paired.mapP {α β:Type} {F G:α→β→Prop}:∀ {l₁:List α} {l₂:List β},Paired F l₁ l₂→(∀ a b,F a b→G a b)→Paired G l₁ l₂
  | _,_,.nil,_=>.nil
  | _,_,.cons r t,f=>.cons (f _ _ r) (Paired.mapP t f)
theorem ObjOk.stay (x:ObjOk P w H h a o) (k:∀ b u,(b=a∨H b=some (.own a))→h.get? b=some u→h'.get? b=some u)
    (ho:∀ b,H b=some (.own a)→H' b=some (.own a)) (ht:∀ b xs,H b=some (.tup xs)→H' b=some (.tup xs)):ObjOk P w H' h' a o:=by
  induction o with
  | lst xs=>obtain ⟨z,its,n,r,e⟩:=x; exact ⟨z,its,n,r,k _ _ (.inl rfl) e⟩
  | tup xs=>obtain ⟨z,its,r,ob,e,c⟩:=x; exact ⟨z,its,r,ob,k _ _ (.inl rfl) e,c⟩
  | dK kvs=>obtain ⟨z,y,vs,r,ob,es,ep,e,c⟩:=x; exact ⟨z,y,vs,r,ob,es,ep,k _ _ (.inl rfl) e,c⟩
  | dT kvs =>
    obtain ⟨z,y,xs,r,ob,es,ep,e,c⟩:=x
    exact ⟨z,y,xs,Paired.mapP r fun p q z=>⟨z.1,ht _ _ z.2.1,z.2.2⟩,ob,es,ep,k _ _ (.inl rfl) e,c⟩
  | set S n=>obtain ⟨ob,es,ep,t,e,c⟩:=x; exact ⟨ob,es,ep,t,k _ _ (.inl rfl) e,c⟩
  | ins C dx fs =>
    obtain ⟨d,z,ne,e,mA,⟨od,es,ep,e2,c⟩,r⟩:=x
    exact ⟨ho _ d,z,ne,k _ _ (.inl rfl) e,mA,⟨od,es,ep,k _ _ (.inr d) e2,c⟩,r⟩
  | own y=>obtain ⟨ob,e⟩:=x; exact ⟨ob,k _ _ (.inl rfl) e⟩
  | xd fs=>obtain ⟨mA,⟨od,es,ep,e,c⟩,r⟩:=x; exact ⟨mA,⟨od,es,ep,k _ _ (.inl rfl) e,c⟩,r⟩
  | rng lo hi=>obtain ⟨t,u,v,e⟩:=x; exact ⟨t,u,v,k _ _ (.inl rfl) e⟩
  | frz ob u ih=>obtain ⟨e,q⟩:=x; exact ⟨k _ _ (.inl rfl) e,ih q⟩
  | tbl ps =>
    have e:h.get? a=some { cls:=.none,data:=.fields ps }:=x
    show h'.get? a=some { cls:=.none,data:=.fields ps }
    exact k a _ (.inl rfl) e
  | met f y =>
    have e:h.get? a=some (PySem.W.methodObj (.ref f) (.ref y)):=x
    show h'.get? a=some (PySem.W.methodObj (.ref f) (.ref y))
    exact k a _ (.inl rfl) e
  | ext φ=>obtain ⟨p,⟨o,e⟩,st⟩:=x; exact ⟨st _ _ p fun o q=>k _ _ (.inl rfl) q,⟨o,k _ _ (.inl rfl) e⟩,st⟩
theorem HOk.lt (x:HOk P w H h) (e:H a=some o):a < h.objs.size:=(x a o e).lt
theorem HOk.fresh (x:HOk P w H h) (e:h.objs.size≤a):H a=none:=by
  cases q:H a with
  | none=>rfl
  | some u=>exact absurd (Nat.lt_of_lt_of_le (x.lt q) e) (Nat.lt_irrefl _)
theorem HOk.kept (x:HOk P w H h) (k:∀ b u,h.get? b=some u→h'.get? b=some u):HOk P w H h':=fun a o e =>
  (x a o e).stay (fun b u _ q=>k b u q) (fun _ q=>q) fun _ _ q=>q
theorem HOk.laid (x:HOk P w H h) (k:∀ b u,h.get? b=some u→h'.get? b=some u) (hp:h.objs.size≤a) (new:ObjOk P w (upd H a o) h' a o):HOk P w (upd H a o) h':=fun b u e=>by
  have hn:=x.fresh hp
  by_cases hb:b=a
  · subst hb; rw [upd_same] at e; cases e; exact new
  · rw [upd_ne hb] at e
    exact (x b u e).stay (fun c v _ q=>k c v q) (fun c q=>by rw [upd_ne (ne_of_none q hn)]; exact q) fun c xs q=>by rw [upd_ne (ne_of_none q hn)]; exact q
end
def Rd (H:Hp) (a:Addr) (u:HO):Prop:=H a=some u∨∃ o,H a=some (.frz o u)
theorem Rd.ok {P:Program} {w:World} {H:Hp} {h:Heap} {a:Addr} {u:HO} (r:Rd H a u) (x:HOk P w H h):ObjOk P w H h a u:=by
  rcases r with r | ⟨o,r⟩
  · exact x a u r
  · obtain ⟨_,q⟩:=x a _ r
    exact q
def Mut:Option HO→Prop
  | some (.lst _)=>True
  | some (.dK _)=>True
  | some (.dT _)=>True
  | some (.set _ _)=>True
  | some (.ins _ _ _)=>True
  | some (.ext _)=>True
  | _=>False
section
variable {P : Program} {w : World} {H : Hp} {h h' : Heap} {x e : Addr} {o' : HO}
theorem HOk.write (ok:HOk P w H h) (mu:Mut (H x)) (he:e=x∨H e=some (.own x)) (k:∀ b u,b≠e→h.get? b=some u→h'.get? b=some u) (heo:∃ u,h'.get? e=some u)
    (new:ObjOk P w (upd H x o') h' x o'):HOk P w (upd H x o') h':=fun b u q=>by
  have nown:∀ c y,H c=some (.own y)→c≠x:=fun c y r z=>by subst z; rw [r] at mu; exact mu
  have ntup:∀ c xs,H c=some (.tup xs)→c≠x:=fun c xs r z=>by subst z; rw [r] at mu; exact mu
  by_cases hb:b=x
  · subst hb; rw [upd_same] at q; cases q; exact new
  · rw [upd_ne hb] at q
    by_cases hbe:b=e
    · have q':H b=some (.own x):=by
        rcases he with z | z
        · exact absurd (hbe.trans z) hb
        · rw [hbe]; exact z
      rw [q] at q'; cases q'
      obtain ⟨v,hv⟩:=heo
      exact ⟨v,by rw [hbe]; exact hv⟩
    · refine (ok b u q).stay (fun c v hc r=>k c v ?_ r) (fun c r=>by rw [upd_ne (nown c b r)]; exact r) fun c xs r=>by rw [upd_ne (ntup c xs r)]; exact r
      rcases hc with rfl | hc
      · exact hbe
      · rintro rfl
        rcases he with z | z
        · exact nown c b hc z
        · rw [hc] at z; cases z; exact hb rfl
end
structure Un (fs ex:List Addr) (H H':Hp) (h h':Heap):Prop where
  keep:∀ b o,h.get? b=some o→H b=none→b ∉ fs→b ∉ ex→h'.get? b=some o
  slot:∀ b o,h.get? b=some o→H b=none→b∈fs→b ∉ ex→∃ sl,h'.get? b=some { o with slots:=sl }
  free:∀ b o,h.get? b=some o→H b=none→b ∉ ex→H' b=none
  there:∀ b o,h.get? b=some o→b ∉ ex→∃ o',h'.get? b=some o'
  tups:∀ b xs,H b=some (.tup xs)→H' b=some (.tup xs)
  frzs:∀ b o u,H b=some (.frz o u)→H' b=some (.frz o u)
  tbls:∀ b ps,H b=some (.tbl ps)→∃ more,H' b=some (.tbl (ps ++ more))
section
variable {fs fs' ex ex' : List Addr} {H H1 H2 : Hp} {h h1 h2 h' : Heap} {a x e : Addr} {o : HO}
theorem Un.any (u:Un fs ex H H1 h h1) {b:Addr} {ob:Obj} (q:h.get? b=some ob) (n:H b=none) (hx:b ∉ ex):∃ sl,h1.get? b=some { ob with slots:=sl }:=by
  by_cases hb:b∈fs
  · exact u.slot b ob q n hb hx
  · exact ⟨ob.slots,u.keep b ob q n hb hx⟩
theorem Un.kept (k:∀ b u,h.get? b=some u→h'.get? b=some u):Un fs ex H H h h' :=
  ⟨fun b ob q _ _ _=>k b ob q,fun b ob q _ _ _=>⟨ob.slots,k b ob q⟩,fun _ _ _ n _=>n,fun b ob q _=>⟨ob,k b ob q⟩,fun _ _ q=>q,fun _ _ _ q=>q,fun _ ps q=>⟨#[],by rw [q]; simp⟩⟩
theorem Un.refl:Un fs ex H H h h:=Un.kept fun _ _ q=>q
theorem Un.laid (k:∀ b u,h.get? b=some u→h'.get? b=some u) (hp:h.objs.size≤a) (hn:H a=none):Un fs ex H (upd H a o) h h' where
  keep:=fun b u q _ _ _=>k b u q
  slot:=fun b u q _ _ _=>⟨u.slots,k b u q⟩
  free:=fun b u q n _=>by rw [upd_ne (Nat.ne_of_lt (Nat.lt_of_lt_of_le (Heap.lt_size q) hp))]; exact n
  there:=fun b u q _=>⟨u,k b u q⟩
  tups:=fun b xs q=>by rw [upd_ne (ne_of_none q hn)]; exact q
  frzs:=fun b u xs q=>by rw [upd_ne (ne_of_none q hn)]; exact q
  tbls:=fun b ps q=>⟨#[],by rw [upd_ne (ne_of_none q hn),q]; simp⟩
theorem Un.write (mu:Mut (H x)) (he:e=x∨H e=some (.own x)) (k:∀ b u,b≠e→h.get? b=some u→h'.get? b=some u) (heo:∃ u,h'.get? e=some u):Un fs ex H (upd H x o) h h':=by
  have hx:∀ b,H b=none→b≠x:=fun b n z=>by subst z; rw [n] at mu; exact mu
  have hb:∀ b,H b=none→b≠e:=fun b n z=>by
    subst z
    rcases he with r | r
    · exact hx b n r
    · rw [n] at r; cases r
  have hm:∀ b u,H b=some u→¬ Mut (some u)→b≠x:=fun b u q nm z=>by subst z; rw [q] at mu; exact nm mu
  refine ⟨fun b u q n _ _=>k b u (hb b n) q,fun b u q n _ _=>⟨u.slots,k b u (hb b n) q⟩,fun b u q n _=>by rw [upd_ne (hx b n)]; exact n,fun b u q _=>?_,
    fun b xs q=>by rw [upd_ne (hm b _ q fun z=>z)]; exact q,fun b u xs q=>by rw [upd_ne (hm b _ q fun z=>z)]; exact q,fun b ps q=>⟨#[],by rw [upd_ne (hm b _ q fun z=>z),q]; simp⟩⟩
  by_cases hbe:b=e
  · subst hbe; exact heo
  · exact ⟨u,k b u hbe q⟩
end
def trk (h:Heap) (H:Hp):List Addr:=(List.range h.objs.size).filter fun a=>(H a).isSome
def hidT (h:Heap) (H:Hp):Heap:=PySem.W.hideAll h (trk h H)
theorem hidT_size (h:Heap) (H:Hp):(hidT h H).objs.size=h.objs.size:=PySem.W.hideAll_size _ _
theorem hidT_get {h:Heap} {H:Hp} {b:Addr} {o:Obj} (e:h.get? b=some o) (n:H b=none):(hidT h H).get? b=some o :=
  PySem.W.hideAll_get _ e fun hm=>by
    have q:(H b).isSome=true:=(List.mem_filter.mp hm).2
    rw [n] at q; simp at q
theorem of_hidT {h:Heap} {H:Hp} {b:Addr} {o:Obj} (e:(hidT h H).get? b=some o):h.get? b=some o∧H b=none:=by
  have e':h.get? b=some o:=PySem.W.of_hideAll (trk h H) e
  refine ⟨e',?_⟩
  cases q:H b with
  | none=>rfl
  | some x =>
    have hm:b∈trk h H:=List.mem_filter.mpr ⟨List.mem_range.mpr (Heap.lt_size e'),by simp [q]⟩
    have z:(hidT h H).get? b=none:=PySem.W.hideAll_none (trk h H) hm
    rw [z] at e; cases e
def allNews (g h:Heap) (L:Addr):List (Addr × Obj):=(List.range h.objs.size).filterMap fun a=>if a=L∨(g.get? a).isSome=true then none else (h.get? a).map fun o=>(a,o)
def rest (g h:Heap) (L d:Addr):List (Addr × Obj):=(allNews g h L).filter fun p=>decide (p.1≠d)
end L2
namespace L2
open PySem PySem.Spec PyProof.Rows
structure Mod (K:PySem.W.Frag) (mg:Str→Option Value) (base:Heap):Prop where
  kin:K.In base
  glob:base.Ns mainGlobals mg
  blt:∃ mb,base.Ns builtinsNs mb∧∀ x:Str,x≠"__name__"→mb x=bootBuiltins x
  nolimit:base.NoLimit
  seer:base.NoSeer
structure Cx where
  prog:Program
  w:World
  K:PySem.W.Frag
  mg:Str→Option Value
  base:Heap
  A:Around
  N:List Str
  s₀:Shared
  H₀:Hp
  env:Env
  outer:List Env
  stack:List Env
  ex:List Addr
  fn:Str→Bool
  calm:Bool
  pn:List (Addr × Obj)
  kn:Nat→Option V
  xe:Value→Shared→Prop
def frs (l:List Env):List Addr:=l.filterMap (·.frame)
abbrev Cx.fs (X:Cx):List Addr:=frs X.outer
def Vis (sc:Scope) (x:Str):Prop:=sc.names.lookup x=some .local∨sc.names.lookup x=some .cell∨sc.names.lookup x=some .free
def Loc (sc:Scope) (x:Str):Prop:=sc.names.lookup x=some .local∨sc.names.lookup x=some .cell
def Look (env:Env) (h:Heap) (m:Str→Option Value) (x:Str) (u:Value):Prop :=
  (env.kindOf x=some .local∧m x=some u)∨((env.kindOf x=some .cell∨env.kindOf x=some .free)∧∃ c,env.cells.lookup x=some c∧h.IsCell c (some u))
structure Cx.Ok (X:Cx):Prop where
  mod:Mod X.K X.mg X.base
  kind:X.env.scope.kind=.function
  glob:X.env.globals=mainGlobals
  blt:X.env.builtins=builtinsNs
  above:X.s₀.heap.objs.size≤X.env.locals
  inj:∀ x y c,X.env.cells.lookup x=some c→X.env.cells.lookup y=some c→x=y
  has:∀ x,(X.env.kindOf x=some .cell∨X.env.kindOf x=some .free)→∃ c,X.env.cells.lookup x=some c
  cab:∀ x c,X.fn x=true→X.env.cells.lookup x=some c→X.s₀.heap.objs.size≤c
  hd:X.calm=true→X.A.handled=none
  frames:X.A.frames=some X.stack
  stk:X.stack=X.outer∨(X.stack=X.env :: X.outer∧X.env.frame=some X.env.locals)
  exf:∀ b∈X.ex,b≠X.env.locals∧∀ x c,X.env.cells.lookup x=some c→c≠b
  bs:∀ b o,X.base.get? b=some o→X.s₀.heap.get? b=some o∧X.H₀ b=none
  bsz:X.base.objs.size≤X.s₀.heap.objs.size
  noex:∀ b o,X.base.get? b=some o→b ∉ X.ex
  exfs:∀ b∈X.ex,b ∉ X.fs
  funs:X.s₀.heap.FunFrames X.base X.outer
  frf:∀ b∈X.fs,X.H₀ b=none
structure Inv (X:Cx) (pins:List (Addr × Obj)) (σ:List (Option V)) (H:Hp) (s:Shared):Prop where
  ok:X.Ok
  os:s.os=X.s₀.os
  bare:AllBare s.gens
  base:Un X.fs X.ex X.H₀ H X.s₀.heap s.heap
  loc:∃ m,s.heap.Ns X.env.locals m∧∀ (i:Nat) (x:Str) (v:V),X.N[i]?=some x→σ[i]?=some (some v)→Vis X.env.scope x→∃ u,RelV v u∧Look X.env s.heap m x u
  cell:∀ x c,X.env.cells.lookup x=some c→∃ v,s.heap.IsCell c v
  free:H X.env.locals=none
  freeC:∀ x c,X.env.cells.lookup x=some c→H c=none
  pin:∀ p∈X.pn ++ pins,s.heap.get? p.1=some p.2∧H p.1=none∧p.1≠X.env.locals∧p.1 ∉ X.fs∧∀ v,p.2.data≠.cell v
  hok:HOk X.prog X.w H s.heap
  len:σ.length=X.N.length
  kno:∀ (i:Nat) (v:V),X.kn i=some v→σ[i]?=some (some v)
section
variable {X : Cx} {pins : List (Addr × Obj)} {σ : List (Option V)} {H H' : Hp} {s : Shared} {h' : Heap}
theorem Cx.Ok.nofr (ok:X.Ok) {b:Addr} {o:Obj} (e:X.base.get? b=some o):b ∉ X.fs:=fun hb=>by
  have:=(ok.funs.mem hb).1
  rw [e] at this; cases this
theorem Inv.bs (I:Inv X pins σ H s):∀ b o,X.base.get? b=some o→s.heap.get? b=some o∧H b=none:=fun b o e =>
  ⟨I.base.keep b o (I.ok.bs b o e).1 (I.ok.bs b o e).2 (I.ok.nofr e) (I.ok.noex b o e),I.base.free b o (I.ok.bs b o e).1 (I.ok.bs b o e).2 (I.ok.noex b o e)⟩
theorem Inv.bk (I:Inv X pins σ H s):∀ b o,X.base.get? b=some o→s.heap.get? b=some o:=fun b o e=>(I.bs b o e).1
theorem Inv.mod (I:Inv X pins σ H s):Mod X.K X.mg X.base:=I.ok.mod
theorem Inv.kIn (I:Inv X pins σ H s):X.K.In s.heap:=I.ok.mod.kin.keeps I.bk
theorem Inv.nolimit (I:Inv X pins σ H s):s.heap.NoLimit:=I.ok.mod.nolimit.keeps I.bk
theorem Inv.fr (I:Inv X pins σ H s):∃ m,Fr X.base X.env.locals s.heap m :=
  let ⟨m,hn,_⟩:=I.loc
  ⟨m,hn,I.bk,Nat.le_trans I.ok.bsz I.ok.above⟩
theorem Inv.lt (I:Inv X pins σ H s):X.env.locals < s.heap.objs.size:=let ⟨_,hn,_⟩:=I.loc; hn.lt
theorem Inv.sz (I:Inv X pins σ H s):X.s₀.heap.objs.size≤s.heap.objs.size:=Nat.le_trans I.ok.above (Nat.le_of_lt I.lt)
theorem Inv.nofs (I:Inv X pins σ H s) {a:Addr} (h:s.heap.objs.size≤a):a ∉ X.fs:=fun hb=>by
  obtain ⟨_,o,ho,_⟩:=I.ok.funs.mem hb
  exact absurd (Nat.lt_of_lt_of_le (Heap.lt_size ho) (Nat.le_trans I.sz h)) (Nat.lt_irrefl _)
theorem Inv.cne (I:Inv X pins σ H s):∀ x c,X.env.cells.lookup x=some c→c≠X.env.locals:=fun x c e z=>by
  obtain ⟨v,o,ho,hd⟩:=I.cell x c e
  obtain ⟨m,⟨o',es,ep,ho',hd',_⟩,_⟩:=I.loc
  rw [z,ho'] at ho; cases ho; rw [hd'] at hd; cases hd
theorem Inv.funs (I:Inv X pins σ H s):s.heap.FunFrames X.base X.outer:=by
  have all:∀ (l:List Env),(∀ b∈frs l,b∈X.fs)→X.s₀.heap.FunFrames X.base l→s.heap.FunFrames X.base l:=by
    intro l
    induction l with
    | nil=>intro _ _; trivial
    | cons env r ih =>
      intro hs hl
      obtain ⟨hk,⟨L,o,hf,hn,ho,hd⟩,hr⟩:=hl
      have hL:L∈X.fs:=hs L (by unfold frs; rw [List.filterMap_cons,hf]; exact List.mem_cons_self)
      obtain ⟨sl,e⟩:=I.base.slot L o ho (I.ok.frf L hL) hL fun z=>I.ok.exfs L z hL
      exact ⟨hk,⟨L,_,hf,hn,e,hd⟩,ih (fun b hb=>hs b (by unfold frs; rw [List.filterMap_cons,hf]; exact List.mem_cons_of_mem _ hb)) hr⟩
  exact all X.outer (fun _ hb=>hb) I.ok.funs
theorem Inv.stack (I:Inv X pins σ H s):s.heap.FunFrames X.base X.stack:=by
  rcases I.ok.stk with e | ⟨e,hf⟩
  · rw [e]; exact I.funs
  · rw [e]
    obtain ⟨m,hn,_⟩:=I.loc
    refine .cons (by rw [I.ok.kind]; decide) hf hn ?_ I.funs
    exact Heap.get?_none_of_le (Nat.le_trans I.ok.bsz I.ok.above)
theorem Inv.stkSub (I:Inv X pins σ H s):∀ b∈frs X.stack,b∈X.env.locals :: X.fs:=fun b hb=>by
  rcases I.ok.stk with e | ⟨e,hf⟩
  · rw [e] at hb; exact List.mem_cons_of_mem _ hb
  · rw [e] at hb
    unfold frs at hb
    rw [List.filterMap_cons,hf] at hb
    exact hb
theorem Inv.stkFree (I:Inv X pins σ H s):∀ b∈frs X.stack,H b=none:=fun b hb=>by
  rcases List.mem_cons.mp (I.stkSub b hb) with e | hb
  · rw [e]; exact I.free
  · obtain ⟨_,o,ho,_⟩:=I.ok.funs.mem hb
    exact I.base.free b o ho (I.ok.frf b hb) fun z=>I.ok.exfs b z hb
theorem Inv.step {g':Array GenState} {t':Nat} {d':Drawn} {ch:List Addr} (I:Inv X pins σ H s)
    (hch:∀ b∈ch,(b∈X.ex∨X.s₀.heap.objs.size≤b)∧b≠X.env.locals∧(∀ x c,X.env.cells.lookup x=some c→c≠b)∧∀ p∈X.pn ++ pins,p.1≠b)
    (keep:∀ b o,b≠X.env.locals→b ∉ X.fs→b ∉ ch→s.heap.get? b=some o→H b=none→h'.get? b=some o)
    (slot:∀ b o,b≠X.env.locals→b∈X.fs→b ∉ ch→s.heap.get? b=some o→H b=none→∃ sl,h'.get? b=some { o with slots:=sl }) (free:∀ b o,b ∉ ch→s.heap.get? b=some o→H b=none→H' b=none)
    (there:∀ b o,b ∉ ch→s.heap.get? b=some o→∃ o',h'.get? b=some o')
    (tups:∀ b xs,H b=some (.tup xs)→H' b=some (.tup xs)) (frzs:∀ b o u,H b=some (.frz o u)→H' b=some (.frz o u)) (tbls:∀ b ps,H b=some (.tbl ps)→∃ more,H' b=some (.tbl (ps ++ more)))
    (ns:∀ m,s.heap.Ns X.env.locals m→h'.Ns X.env.locals m) (hok:HOk X.prog X.w H' h') (hg:AllBare g') :
    Inv X pins σ H' { s with heap:=h',gens:=g',drawn:=d',toks:=t' }:=by
  have neL:∀ b o,X.s₀.heap.get? b=some o→b≠X.env.locals:=fun b o e=>Nat.ne_of_lt (Nat.lt_of_lt_of_le (Heap.lt_size e) I.ok.above)
  have neC:∀ b o,X.s₀.heap.get? b=some o→b ∉ X.ex→b ∉ ch:=fun b o e hx hb=>by
    rcases (hch b hb).1 with z | z
    · exact hx z
    · exact absurd (Nat.lt_of_lt_of_le (Heap.lt_size e) z) (Nat.lt_irrefl _)
  have cellK:∀ x c,X.env.cells.lookup x=some c→∀ v,s.heap.IsCell c v→h'.IsCell c v:=fun x c e v ⟨o,ho,hd⟩=>by
    have nch:c ∉ ch:=fun z=>(hch c z).2.2.1 x c e rfl
    by_cases hc:c∈X.fs
    · obtain ⟨sl,q⟩:=slot c o (I.cne x c e) hc nch ho (I.freeC x c e)
      exact ⟨_,q,hd⟩
    · exact ⟨o,keep c o (I.cne x c e) hc nch ho (I.freeC x c e),hd⟩
  refine ⟨I.ok,I.os,hg,⟨fun b o e n hb hx=>?_,fun b o e n hb hx=>?_,fun b o e n hx=>?_,fun b o e hx=>?_,fun b xs e=>tups b xs (I.base.tups b xs e),fun b o xs e=>frzs b o xs (I.base.frzs b o xs e),fun b ps e=>?_⟩,?_,fun x c e=>?_,?_,fun x c e=>?_,fun p hp=>?_,hok,I.len,I.kno⟩
  · exact keep b o (neL b o e) hb (neC b o e hx) (I.base.keep b o e n hb hx) (I.base.free b o e n hx)
  · obtain ⟨sl,e1⟩:=I.base.slot b o e n hb hx
    obtain ⟨sl',e2⟩:=slot b _ (neL b o e) hb (neC b o e hx) e1 (I.base.free b o e n hx)
    exact ⟨sl',e2⟩
  · obtain ⟨o',e1⟩:=I.base.there b o e hx
    exact free b o' (neC b o e hx) e1 (I.base.free b o e n hx)
  · obtain ⟨o',e1⟩:=I.base.there b o e hx
    exact there b o' (neC b o e hx) e1
  · obtain ⟨m1,e1⟩:=I.base.tbls b ps e
    obtain ⟨m2,e2⟩:=tbls b _ e1
    exact ⟨m1 ++ m2,by rw [e2,Array.append_assoc]⟩
  · obtain ⟨m,hn,hl⟩:=I.loc
    refine ⟨m,ns m hn,fun i x v e1 e2 e3=>?_⟩
    obtain ⟨u,r,l⟩:=hl i x v e1 e2 e3
    refine ⟨u,r,?_⟩
    rcases l with l | ⟨k,c,e,z⟩
    · exact .inl l
    · exact .inr ⟨k,c,e,cellK x c e _ z⟩
  · obtain ⟨v,z⟩:=I.cell x c e
    exact ⟨v,cellK x c e v z⟩
  · obtain ⟨m,⟨o,_,_,ho,_⟩,_⟩:=I.loc
    exact free _ o (fun z=>(hch _ z).2.1 rfl) ho I.free
  · obtain ⟨v,o,ho,hd⟩:=I.cell x c e
    exact free c o (fun z=>(hch c z).2.2.1 x c e rfl) ho (I.freeC x c e)
  · obtain ⟨e,n,ne,nf,d⟩:=I.pin p hp
    have nch:p.1 ∉ ch:=fun z=>(hch p.1 z).2.2.2 p hp rfl
    exact ⟨keep p.1 p.2 ne nf nch e n,free p.1 p.2 nch e n,ne,nf,d⟩
theorem Inv.un {t':Nat} (I:Inv X pins σ H s) (u:Un X.fs [] H H' s.heap h') (hok:HOk X.prog X.w H' h'):Inv X pins σ H' { s with heap:=h',toks:=t' }:=by
  obtain ⟨m,⟨o,es,ep,ho,r⟩,_⟩:=id I.loc
  obtain ⟨sl,hL⟩:=u.any ho I.free (by simp)
  exact I.step (g':=s.gens) (d':=s.drawn) (ch:=[]) (fun _ z=>nomatch z) (fun b o _ hb _ e n=>u.keep b o e n hb (by simp)) (fun b o _ hb _ e n=>u.slot b o e n hb (by simp)) (fun b o _ e n=>u.free b o e n (by simp)) (fun b o _ e=>u.there b o e (by simp)) u.tups u.frzs u.tbls (fun m' hm=>by
    obtain ⟨o',es',ep',ho',r'⟩:=hm
    rw [ho] at ho'; cases ho'
    exact ⟨_,es',ep',hL,r'⟩) hok I.bare
theorem Inv.call {g':Array GenState} {t':Nat} {d':Drawn} {ch:List Addr} (I:Inv X pins σ H s) (u:Un (frs X.stack) ch H H' s.heap h') (hok:HOk X.prog X.w H' h') (hg:AllBare g')
    (hch:∀ b∈ch,(b∈X.ex∨X.s₀.heap.objs.size≤b)∧b≠X.env.locals∧(∀ x c,X.env.cells.lookup x=some c→c≠b)∧∀ p∈X.pn ++ pins,p.1≠b) :
    Inv X pins σ H' { s with heap:=h',gens:=g',drawn:=d',toks:=t' }:=by
  obtain ⟨m,⟨o,es,ep,ho,r⟩,_⟩:=id I.loc
  obtain ⟨sl,hL⟩:=u.any ho I.free fun z=>(hch _ z).2.1 rfl
  exact I.step (ch:=ch) hch (fun b o hL hb hc e n=>u.keep b o e n (fun z=>(List.mem_cons.mp (I.stkSub b z)).elim hL hb) hc) (fun b o _ _ hc e n=>u.any e n hc) (fun b o hc e n=>u.free b o e n hc) (fun b o hc e=>u.there b o e hc) u.tups u.frzs u.tbls (fun m' hm=>by
    obtain ⟨o',es',ep',ho',r'⟩:=hm
    rw [ho] at ho'; cases ho'
    exact ⟨_,es',ep',hL,r'⟩) hok hg
theorem Inv.turned {t':Nat} {it:Addr} (I:Inv X pins σ H s) (k:∀ b o,b≠it→s.heap.get? b=some o→h'.get? b=some o) (hn:H it=none) (hL:it≠X.env.locals)
    (h1:it∈X.ex∨X.s₀.heap.objs.size≤it) (h2:∀ x c,X.env.cells.lookup x=some c→c≠it) (h3:∀ p∈X.pn ++ pins,p.1≠it):Inv X pins σ H { s with heap:=h',toks:=t' }:=by
  have nit:∀ b u,H b=some u→b≠it:=fun b u e z=>by rw [z,hn] at e; cases e
  refine I.step (g':=s.gens) (d':=s.drawn) (ch:=[it]) (fun b hb=>?_) (fun b o _ _ hc e _=>k b o (fun z=>hc (by simp [z])) e) (fun b o _ _ hc e _=>⟨o.slots,k b o (fun z=>hc (by simp [z])) e⟩) (fun _ _ _ _ n=>n)
    (fun b o hc e=>⟨o,k b o (fun z=>hc (by simp [z])) e⟩) (fun _ _ e=>e) (fun _ _ _ e=>e) (fun b ps e=>⟨#[],by rw [e]; simp⟩) (fun m hm=>?_) (fun b u e=>?_) I.bare
  · have e:b=it:=by simpa using hb
    subst e
    exact ⟨h1,hL,h2,h3⟩
  · obtain ⟨o,es,ep,ho,r⟩:=hm
    exact ⟨o,es,ep,k _ o (Ne.symm hL) ho,r⟩
  · refine (I.hok b u e).stay (fun c v hc q=>k c v ?_ q) (fun _ q=>q) fun _ _ q=>q
    rcases hc with z | z
    · rw [z]; exact nit b u e
    · exact nit c _ z
theorem Inv.tok (I:Inv X pins σ H s) (t:Nat):Inv X pins σ H { s with toks:=t }:=I.un (h':=s.heap) (t':=t) Un.refl I.hok
theorem Inv.kept {t':Nat} (I:Inv X pins σ H s) (k:∀ b u,s.heap.get? b=some u→h'.get? b=some u):Inv X pins σ H { s with heap:=h',toks:=t' }:=I.un (Un.kept k) (I.hok.kept k)
theorem Inv.laid {a:Addr} {o:HO} {t':Nat} (I:Inv X pins σ H s) (k:∀ b u,s.heap.get? b=some u→h'.get? b=some u) (hp:s.heap.objs.size≤a) (new:ObjOk X.prog X.w (upd H a o) h' a o) :
    Inv X pins σ (upd H a o) { s with heap:=h',toks:=t' }:=I.un (Un.laid k hp (I.hok.fresh hp)) (I.hok.laid k hp new)
theorem Inv.write {x e:Addr} {o:HO} {t':Nat} (I:Inv X pins σ H s) (mu:Mut (H x)) (he:e=x∨H e=some (.own x)) (k:∀ b u,b≠e→s.heap.get? b=some u→h'.get? b=some u) (heo:∃ u,h'.get? e=some u)
    (new:ObjOk X.prog X.w (upd H x o) h' x o):Inv X pins σ (upd H x o) { s with heap:=h',toks:=t' }:=I.un (Un.write mu he k heo) (I.hok.write mu he k heo new)
theorem Inv.weak {σ':List (Option V)} (I:Inv X pins σ H s) (hl:σ'.length=σ.length) (w:∀ (i:Nat) v,σ'[i]?=some (some v)→σ[i]?=some (some v)) (wk:∀ (i:Nat) v,X.kn i=some v→σ'[i]?=some (some v)):Inv X pins σ' H s :=
  ⟨I.ok,I.os,I.bare,I.base,let ⟨m,hn,hl'⟩:=I.loc; ⟨m,hn,fun i x v e1 e2 e3=>hl' i x v e1 (w i v e2) e3⟩,I.cell,I.free,I.freeC,I.pin,I.hok,hl.trans I.len,wk⟩
theorem Inv.pins_of {pins':List (Addr × Obj)} (I:Inv X pins σ H s) (h:∀ p∈pins',s.heap.get? p.1=some p.2∧H p.1=none∧p.1≠X.env.locals∧p.1 ∉ X.fs∧∀ v,p.2.data≠.cell v):Inv X pins' σ H s :=
  ⟨I.ok,I.os,I.bare,I.base,I.loc,I.cell,I.free,I.freeC,fun p hp=>(List.mem_append.mp hp).elim (fun z=>I.pin p (List.mem_append_left _ z)) (h p),I.hok,I.len,I.kno⟩
theorem nodup_ix {N:List Str} (hN:N.Nodup) {i j:Nat} {x:Str} (a:N[i]?=some x) (b:N[j]?=some x):i=j:=by
  obtain ⟨h1,e1⟩:=List.getElem?_eq_some_iff.mp a
  obtain ⟨h2,e2⟩:=List.getElem?_eq_some_iff.mp b
  exact (List.getElem_inj hN).mp (e1.trans e2.symm)
theorem store_ok2 {M:Model} {A:Around} {E:Value→Shared→Prop} {i:Nat} {x:Str} {v:V} {u:Value} {Q:Unit→Shared→Prop} (I:Inv X pins σ H s) (hN:X.N.Nodup) (hi:X.N[i]?=some x) (hx:Loc X.env.scope x) (r:RelV v u)
    (h:∀ s',Inv X pins (σ.set i (some v)) H s'→(∃ a,Heap.SameBut a s.heap s'.heap∧(a=X.env.locals∨X.env.cells.lookup x=some a))→Q () s') (hf:X.fn x=true∨X.env.scope.names.lookup x=some .local:=by first | exact .inl rfl | exact .inr rfl | assumption) (hkn:X.kn i=Option.none:=by rfl):wpAny M A (storeName X.env x u) Q E s:=by
  have kset:∀ (j:Nat) (v2:V),X.kn j=some v2→(σ.set i (some v))[j]?=some (some v2):=fun j v2 z=>by
    have hj:i≠j:=fun e=>by subst e; rw [hkn] at z; cases z
    rw [List.getElem?_set_ne hj]
    exact I.kno j v2 z
  obtain ⟨m,hn,hl⟩:=id I.loc
  have hcls:(X.env.scope.kind == .class || (X.env.scope.kind == .module && X.env.locals != X.env.globals))=false:=by rw [I.ok.kind]; rfl
  have hiσ:i < σ.length:=by rw [I.len]; exact (List.getElem?_eq_some_iff.mp hi).1
  have cne:=I.cne
  have tracked:∀ {a:Addr} {h':Heap},(∃ o,s.heap.get? a=some o∧H a=none)→Heap.SameBut a s.heap h'→HOk X.prog X.w H h':=fun {a h'} ha hs b ob e=>by
    obtain ⟨_,_,hfree⟩:=ha
    refine (I.hok b ob e).stay (fun c w' hc q=>(hs.2 c ?_).trans q) (fun _ q=>q) fun _ _ q=>q
    rintro rfl
    rcases hc with rfl | hc
    · rw [hfree] at e; cases e
    · rw [hfree] at hc; cases hc
  rcases hx with hk | hk
  · refine wpAny_storeName_local hk hn (fun h' hn' hs=>?_) hcls
    obtain ⟨oL,_,_,hoL,_⟩:=id hn
    refine h _ ⟨I.ok,I.os,I.bare,⟨fun b o e n hb hx=>?_,fun b o e n hb hx=>?_,I.base.free,fun b o e hx=>?_,I.base.tups,I.base.frzs,I.base.tbls⟩,⟨_,hn',fun j y v' e1 e2 e3=>?_⟩,fun y c e=>?_,I.free,I.freeC,fun p hp=>?_,tracked ⟨oL,hoL,I.free⟩ hs,by simpa using I.len,kset⟩ ⟨_,hs,.inl rfl⟩
    · exact (hs.2 b (Nat.ne_of_lt (Nat.lt_of_lt_of_le (Heap.lt_size e) I.ok.above))).trans (I.base.keep b o e n hb hx)
    · obtain ⟨sl,e1⟩:=I.base.slot b o e n hb hx
      exact ⟨sl,(hs.2 b (Nat.ne_of_lt (Nat.lt_of_lt_of_le (Heap.lt_size e) I.ok.above))).trans e1⟩
    · obtain ⟨o',e1⟩:=I.base.there b o e hx
      exact ⟨o',(hs.2 b (Nat.ne_of_lt (Nat.lt_of_lt_of_le (Heap.lt_size e) I.ok.above))).trans e1⟩
    · by_cases hj:j=i
      · subst hj
        rw [hi] at e1; cases e1
        rw [List.getElem?_set_self hiσ] at e2
        cases e2
        exact ⟨u,r,.inl ⟨hk,by simp⟩⟩
      · rw [List.getElem?_set_ne (Ne.symm hj)] at e2
        obtain ⟨u',r',q⟩:=hl j y v' e1 e2 e3
        refine ⟨u',r',?_⟩
        rcases q with ⟨k,e⟩ | ⟨k,c,e,z⟩
        · refine .inl ⟨k,?_⟩
          have:y≠x:=fun e=>hj (nodup_ix hN e1 (e ▸ hi))
          simp [this,e]
        · exact .inr ⟨k,c,e,z.sameBut hs (cne y c e)⟩
    · obtain ⟨w',z⟩:=I.cell y c e
      exact ⟨w',z.sameBut hs (cne y c e)⟩
    · obtain ⟨e,n,ne,nf,d⟩:=I.pin p hp
      exact ⟨(hs.2 p.1 ne).trans e,n,ne,nf,d⟩
  · have hfn:X.fn x=true:=by
      rcases hf with z | z
      · exact z
      · rw [z] at hk; cases hk
    obtain ⟨c,hc⟩:=I.ok.has x (.inl hk)
    obtain ⟨w',z⟩:=I.cell x c hc
    refine wpAny_storeName_cell I.ok.kind hk hc z (fun h' hc' hs=>?_)
    obtain ⟨oc,hoc,hocd⟩:=id z
    refine h { s with heap:=h' } ⟨I.ok,I.os,I.bare,⟨fun b o e n hb hx=>?_,fun b o e n hb hx=>?_,I.base.free,fun b o e hx=>?_,I.base.tups,I.base.frzs,I.base.tbls⟩,⟨m,hn.sameBut hs (Ne.symm (cne x c hc)),fun j y v' e1 e2 e3=>?_⟩,fun y c' e=>?_,I.free,I.freeC,fun p hp=>?_,tracked ⟨oc,hoc,I.freeC x c hc⟩ hs,by simpa using I.len,kset⟩ ⟨c,hs,.inr hc⟩
    · exact (hs.2 b (Nat.ne_of_lt (Nat.lt_of_lt_of_le (Heap.lt_size e) (I.ok.cab x c hfn hc)))).trans (I.base.keep b o e n hb hx)
    · obtain ⟨sl,e1⟩:=I.base.slot b o e n hb hx
      exact ⟨sl,(hs.2 b (Nat.ne_of_lt (Nat.lt_of_lt_of_le (Heap.lt_size e) (I.ok.cab x c hfn hc)))).trans e1⟩
    · obtain ⟨o',e1⟩:=I.base.there b o e hx
      exact ⟨o',(hs.2 b (Nat.ne_of_lt (Nat.lt_of_lt_of_le (Heap.lt_size e) (I.ok.cab x c hfn hc)))).trans e1⟩
    · by_cases hj:j=i
      · subst hj
        rw [hi] at e1; cases e1
        rw [List.getElem?_set_self hiσ] at e2
        cases e2
        exact ⟨u,r,.inr ⟨.inl hk,c,hc,hc'⟩⟩
      · rw [List.getElem?_set_ne (Ne.symm hj)] at e2
        obtain ⟨u',r',q⟩:=hl j y v' e1 e2 e3
        refine ⟨u',r',?_⟩
        rcases q with q | ⟨k,c',e,z'⟩
        · exact .inl q
        · refine .inr ⟨k,c',e,z'.sameBut hs ?_⟩
          rintro rfl
          exact hj (nodup_ix hN e1 (I.ok.inj _ _ _ e hc ▸ hi))
    · by_cases hcc:c'=c
      · subst hcc; exact ⟨_,hc'⟩
      · obtain ⟨w2,z2⟩:=I.cell y c' e
        exact ⟨w2,z2.sameBut hs hcc⟩
    · obtain ⟨e,n,ne,nf,d⟩:=I.pin p hp
      refine ⟨(hs.2 p.1 ?_).trans e,n,ne,nf,d⟩
      intro q
      rw [q,hoc] at e
      have q':oc=p.2:=Option.some.inj e
      exact d w' (by rw [← q']; exact hocd)
theorem store_ok {M:Model} {A:Around} {E:Value→Shared→Prop} {i:Nat} {x:Str} {v:V} {u:Value} {Q:Unit→Shared→Prop} (I:Inv X pins σ H s) (hN:X.N.Nodup) (hi:X.N[i]?=some x) (hx:Loc X.env.scope x) (r:RelV v u)
    (h:∀ s',Inv X pins (σ.set i (some v)) H s'→Q () s') (hf:X.fn x=true∨X.env.scope.names.lookup x=some .local:=by first | exact .inl rfl | exact .inr rfl | assumption) (hkn:X.kn i=Option.none:=by rfl):wpAny M A (storeName X.env x u) Q E s :=
  store_ok2 I hN hi hx r (fun s' I' _=>h s' I') hf hkn
theorem Inv.call' {s':Shared} {ch:List Addr} (I:Inv X pins σ H s) (ho:s'.os=s.os) (u:Un (frs X.stack) ch H H' s.heap s'.heap) (hok:HOk X.prog X.w H' s'.heap) (hg:AllBare s'.gens)
    (hch:∀ b∈ch,(b∈X.ex∨X.s₀.heap.objs.size≤b)∧b≠X.env.locals∧(∀ x c,X.env.cells.lookup x=some c→c≠b)∧∀ p∈X.pn ++ pins,p.1≠b):Inv X pins σ H' s':=by
  obtain ⟨h',g',d',t',o'⟩:=s'
  have e:o'=s.os:=ho
  subst e
  exact I.call (g':=g') (t':=t') (d':=d') u hok hg hch
end
abbrev XK:=Value→Option Addr→Hp→Prop
abbrev St:=List (Option V)
abbrev VK:=V→Hp→Prop
abbrev TE:=St→Hp→VK→Prop
abbrev TT:=St→Hp→(Bool→Hp→Prop)→Prop
abbrev TA:=St→Hp→(List V→Hp→Prop)→Prop
structure Ends where
  nx:St→Hp→Prop
  rt:VK
  bk:St→Hp→Prop:=fun _ _=>False
  ct:St→Hp→Prop:=fun _ _=>False
abbrev TS:=Ends→St→Hp→Prop
def EP (X:Cx) (pins:List (Addr × Obj)) (σ:St) (Q:VK) (u:Value) (s':Shared):Prop:=∃ v H',Inv X pins σ H' s'∧RelV v u∧Q v H'
def TP (X:Cx) (pins:List (Addr × Obj)) (σ:St) (Q:Bool→Hp→Prop) (b:Bool) (s':Shared):Prop:=∃ H',Inv X pins σ H' s'∧Q b H'
def AP (X:Cx) (pins:List (Addr × Obj)) (σ:St) (Q:List V→Hp→Prop) (us:List Value) (s':Shared):Prop:=∃ vs H',Inv X pins σ H' s'∧Vals vs us∧Q vs H'
def SP (X:Cx) (pins:List (Addr × Obj)) (D:Ends) (f:Flow) (s':Shared):Prop :=
  match f with
  | .next=>∃ σ' H',Inv X pins σ' H' s'∧D.nx σ' H'
  | .brk=>∃ σ' H',Inv X pins σ' H' s'∧D.bk σ' H'
  | .cont=>∃ σ' H',Inv X pins σ' H' s'∧D.ct σ' H'
  | .ret u=>∃ v σ' H',Inv X pins σ' H' s'∧RelV v u∧D.rt v H'
def PE (X:Cx) (e:Expr) (t:TE):Prop :=
  ∀ (pins:List (Addr × Obj)) (s:Shared) (σ:St) (H:Hp) (Q:VK),Inv X pins σ H s→t σ H Q→wpAny (model X.prog X.w) X.A (eval e X.env) (EP X pins σ Q) X.xe s
def PT (X:Cx) (e:Expr) (t:TT):Prop :=
  ∀ (pins:List (Addr × Obj)) (s:Shared) (σ:St) (H:Hp) (Q:Bool→Hp→Prop),Inv X pins σ H s→t σ H Q→wpAny (model X.prog X.w) X.A (isTrue e X.env (eval e X.env)) (TP X pins σ Q) X.xe s
def PW (X:Cx) (e:Expr) (t:TT):Prop :=
  ∀ (whole:Sem Value) (pins:List (Addr × Obj)) (s:Shared) (σ:St) (H:Hp) (Q:Bool→Hp→Prop),Inv X pins σ H s→t σ H Q→wpAny (model X.prog X.w) X.A (isTrue e X.env whole) (TP X pins σ Q) X.xe s
theorem PW.pt {X:Cx} {e:Expr} {t:TT} (h:PW X e t):PT X e t:=h _
def PA (X:Cx) (es:List Expr) (t:TA):Prop :=
  ∀ (pos:Pos) (pins:List (Addr × Obj)) (s:Shared) (σ:St) (H:Hp) (Q:List V→Hp→Prop),Inv X pins σ H s→t σ H Q→wpAny (model X.prog X.w) X.A (spliced (backTo pos (starEach es X.env))) (AP X pins σ Q) X.xe s
def PS (X:Cx) (st:Stmt) (t:TS):Prop :=
  ∀ (pins:List (Addr × Obj)) (s:Shared) (σ:St) (H:Hp) (D:Ends),Inv X pins σ H s→t D σ H→wpAny (model X.prog X.w) X.A (exec st X.env) (SP X pins D) X.xe s
def PSs (X:Cx) (st:List Stmt) (t:TS):Prop :=
  ∀ (pins:List (Addr × Obj)) (s:Shared) (σ:St) (H:Hp) (D:Ends),Inv X pins σ H s→t D σ H→wpAny (model X.prog X.w) X.A (execs st X.env) (SP X pins D) X.xe s
theorem thn {α:Type} {t:Sem α} {Q Q':α→Shared→Prop} {M:Model} {A:Around} {E:Value→Shared→Prop} {s:Shared} (h:wpAny M A t Q E s) (hQ:∀ a s,Q a s→Q' a s):wpAny M A t Q' E s:=wpAny_mono h hQ fun _ _ x=>x
end L2
namespace L2
open PySem PySem.Spec PyProof.Rows
section
variable {X : Cx}
def tVar (i:Nat):TE:=fun σ H Q=>∃ v,σ[i]?=some (some v)∧Q v H
def tC (v:V):TE:=fun _ H Q=>Q v H
theorem pe_var {i:Nat} {x:Str} {pos:Pos} (hN:X.N[i]?=some x) (hv:Vis X.env.scope x) (hd:(x == ("__debug__":Str))=false:=by decide) (hcd:(x == ("__classdict__":Str))=false:=by decide):PE X (.Name x pos) (tVar i):=by
  intro pins s σ H Q I h
  obtain ⟨v,e,h⟩:=h
  obtain ⟨m,hn,hl⟩:=I.loc
  obtain ⟨u,r,l⟩:=hl i x v hN e hv
  have fin:EP X pins σ Q u s:=⟨v,H,I,r,h⟩
  rcases l with ⟨hk,hm⟩ | ⟨hk,c,hc,hcell⟩
  · exact wpAny_Name (wpAny_loadName_local I.ok.kind hk hn hm fin) hd
  · rcases hk with hk | hk
    · exact wpAny_Name (wpAny_loadName_cell I.ok.kind hk hc hcell fin) hd
    · exact wpAny_Name (wpAny_loadName_free I.ok.kind hk hc hcell fin hcd) hd
theorem pe_int {i j pos}:PE X (.Constant (.int i) j pos) (tC (.int i)):=fun _ _ _ H _ I h=>wpAny_Constant_int ⟨.int i,H,I.tok _,⟨_,rfl⟩,h⟩
theorem pe_bl {b j pos}:PE X (.Constant (.bool b) j pos) (tC (.bl b)):=fun _ _ _ H _ I h=>Constant_bool ⟨.bl b,H,I,rfl,h⟩
theorem pe_non {j pos}:PE X (.Constant .none j pos) (tC .non):=fun _ _ _ H _ I h=>Constant_none ⟨.non,H,I,rfl,h⟩
theorem pe_str {x j pos}:PE X (.Constant (.str x) j pos) (tC (.str x)):=fun _ _ _ H _ I h=>Calls.Constant_str ⟨.str x,H,I.tok _,⟨_,rfl⟩,h⟩
def Gl (X:Cx) (x:Str):Prop:=X.env.kindOf x=some .globalImplicit
theorem ld_glob {E:Value→Shared→Prop} {pins:List (Addr × Obj)} {s:Shared} {σ:St} {H:Hp} {x:Str} {u:Value} {pos:Pos} {Q:Value→Shared→Prop} (I:Inv X pins σ H s) (hg:Gl X x) (hm:X.mg x=some u) (h:Q u s)
    (hd:(x == ("__debug__":Str))=false:=by decide):wpAny (model X.prog X.w) X.A (eval (.Name x pos) X.env) Q E s :=
  Calls.Name_function_global I.ok.kind hg (Calls.loadGlobal_global (by rw [I.ok.glob]; exact I.mod.glob.keeps I.bk) hm h) hd
theorem ld_blt {E:Value→Shared→Prop} {pins:List (Addr × Obj)} {s:Shared} {σ:St} {H:Hp} {x:Str} {u:Value} {pos:Pos} {Q:Value→Shared→Prop} (I:Inv X pins σ H s) (hg:Gl X x) (hm:X.mg x=none) (hv:bootBuiltins x=some u) (h:Q u s)
    (hn:x≠"__name__":=by decide) (hd:(x == ("__debug__":Str))=false:=by decide):wpAny (model X.prog X.w) X.A (eval (.Name x pos) X.env) Q E s:=by
  obtain ⟨mb,h1,h2⟩:=I.mod.blt
  exact Calls.Name_function_global I.ok.kind hg (Calls.loadGlobal_builtin (by rw [I.ok.glob]; exact I.mod.glob.keeps I.bk) hm (by rw [I.ok.blt]; exact h1.keeps I.bk) ((h2 x hn).trans hv) h) hd
theorem pe_glob {x:Str} {v:V} {u:Value} {pos:Pos} (hg:Gl X x) (hm:X.mg x=some u) (r:RelV v u) (hd:(x == ("__debug__":Str))=false:=by decide):PE X (.Name x pos) (tC v) :=
  fun _ _ _ H _ I h=>ld_glob I hg hm ⟨v,H,I,r,h⟩ hd
theorem pe_bltn {x:Str} {v:V} {u:Value} {pos:Pos} (hg:Gl X x) (hm:X.mg x=none) (hv:bootBuiltins x=some u) (r:RelV v u) (hn:x≠"__name__":=by decide) (hd:(x == ("__debug__":Str))=false:=by decide):PE X (.Name x pos) (tC v) :=
  fun _ _ _ H _ I h=>ld_blt I hg hm hv ⟨v,H,I,r,h⟩ hn hd
def t2I (ta tb:TE) (k:Int→Int→Hp→Prop):St→Hp→Prop:=fun σ H=>ta σ H fun x H1=>tb σ H1 fun y H2=>∃ i j,x=.int i∧y=.int j∧k i j H2
variable {a b : Expr} {ta tb : TE} {pos : Pos}
def PC (X:Cx) (op:CmpOp) (a b:Expr) (t:TE):Prop :=
  ∀ (pins:List (Addr × Obj)) (s:Shared) (σ:St) (H:Hp) (Q:VK),Inv X pins σ H s→t σ H Q →
    wpAny (model X.prog X.w) X.A (eval a X.env) (fun v s₁=>wpAny (model X.prog X.w) X.A (eval b X.env) (fun u s₂=>wpAny (model X.prog X.w) X.A (compareOp op v u) (EP X pins σ Q) X.xe s₂) X.xe s₁) X.xe s
theorem nobehind (b:Expr) {op:CmpOp} (h:op≠.In) (h2:op≠.NotIn):behindInMarks op b=false:=by
  have e1:(op == CmpOp.In)=false:=by cases op <;> first | rfl | exact absurd rfl h
  have e2:(op == CmpOp.NotIn)=false:=by cases op <;> first | rfl | exact absurd rfl h2
  cases b <;> simp [behindInMarks,e1,e2]
def tCmp (p:Int→Int→Bool) (ta tb:TE):TE:=fun σ H Q=>t2I ta tb (fun i j H2=>Q (.bl (p i j)) H2) σ H
abbrev tLt:TE→TE→TE:=tCmp fun i j=>decide (i < j)
abbrev tLe:TE→TE→TE:=tCmp fun i j=>decide (i≤j)
abbrev tGt:TE→TE→TE:=tCmp fun i j=>decide (j < i)
abbrev tGe:TE→TE→TE:=tCmp fun i j=>decide (j≤i)
abbrev tEqI:TE→TE→TE:=tCmp fun i j=>decide (i=j)
abbrev tNeI:TE→TE→TE:=tCmp fun i j=>!decide (i=j)
def tIsN (ta:TE):TE:=fun σ H Q=>ta σ H fun x H1=>Q (.bl (decide (x=.non))) H1
theorem RelV.none_iff {x:V} {v:Value} (r:RelV x v):(v == Value.none)=decide (x=.non):=by
  cases x with
  | non=>cases r; rfl
  | bl _=>cases r; rfl
  | int _=>obtain ⟨t,rfl⟩:=r; rfl
  | str _=>obtain ⟨t,rfl⟩:=r; rfl
  | byt _=>obtain ⟨t,rfl⟩:=r; rfl
  | flt _=>obtain ⟨t,rfl⟩:=r; rfl
  | ref _=>cases r; rfl
  | ty _=>cases r; rfl
theorem pc_isN {j pos'} (ha:PE X a ta):PC X .Is a (.Constant .none j pos') (tIsN ta):=by
  intro pins s σ H Q I h
  refine thn (ha pins s σ H _ I h) fun v s1 ⟨x,H1,I1,r1,q1⟩=>?_
  exact Constant_none (is_none_gen ⟨.bl _,H1,I1,by rw [r1.none_iff]; rfl,q1⟩)
def tB (t:TE):TT:=fun σ H Q=>t σ H fun x H1=>∃ c,x=.bl c∧Q c H1
theorem pe_cmp {op:CmpOp} {t:TE} (h:PC X op a b t) (h1:behindInMarks op b=false:=by first | exact nobehind _ (by decide) (by decide) | rfl):PE X (.Compare a [op] [b] pos) t:=fun pins s σ H Q I hw=>wpAny_Compare1 (h pins s σ H Q I hw) h1
theorem pt_cmp {op:CmpOp} {t:TE} (h:PC X op a b t) (h1:behindInMarks op b=false:=by first | exact nobehind _ (by decide) (by decide) | rfl):PT X (.Compare a [op] [b] pos) (tB t):=by
  intro pins s σ H Q I hw
  refine wpAny_isTrue_Compare1 (thn (h pins s σ H _ I hw) fun v s1 h1=>thn h1 fun u s2 h2=>thn h2 fun c s3 ⟨x,H1,I1,r1,q1⟩=>?_) h1
  obtain ⟨d,rfl,q⟩:=q1
  cases r1
  exact wpAny_truthy_bool ⟨H1,I1,q⟩
theorem pt_val {e:Expr} {t:TE} (h:PE X e t) (he:∀ whole,isTrue e X.env whole=(do let v ← whole; standAt e.pos; holding [v] (truthy v)):=by intro _; rfl):PT X e (tB t):=by
  intro pins s σ H Q I hw
  refine isTrue_plain (thn (h pins s σ H _ I hw) fun v s1 ⟨x,H1,I1,r1,q1⟩=>?_) (he _)
  obtain ⟨d,rfl,q⟩:=q1
  cases r1
  exact wpAny_truthy_bool ⟨H1,I1,q⟩
variable {tA tB' : TT} {rest : List Expr}
def tAnd (t u:TT):TT:=fun σ H Q=>t σ H fun c H1=>if c=true then u σ H1 Q else Q false H1
def tOr (t u:TT):TT:=fun σ H Q=>t σ H fun c H1=>if c=true then Q true H1 else u σ H1 Q
def tNot (t:TT):TT:=fun σ H Q=>t σ H fun c H1=>Q (!c) H1
theorem pw_and1 (ha:PT X a tA):PW X (.BoolOp .And [a] pos) tA:=by
  intro wh pins s σ H Q I h
  refine isTrue_and (thn (ha pins s σ H Q I h) fun c s1 e=>?_)
  cases c with
  | true=>exact isTrue_and_nil e
  | false=>exact e
theorem pw_or1 (ha:PT X a tA):PW X (.BoolOp .Or [a] pos) tA:=by
  intro wh pins s σ H Q I h
  refine isTrue_or (thn (ha pins s σ H Q I h) fun c s1 e=>?_)
  cases c with
  | false=>exact isTrue_or_nil e
  | true=>exact e
theorem pw_and (ha:PT X a tA) (hb:PW X (.BoolOp .And (b :: rest) pos) tB'):PW X (.BoolOp .And (a :: b :: rest) pos) (tAnd tA tB'):=by
  intro wh pins s σ H Q I h
  refine isTrue_and (thn (ha pins s σ H _ I h) fun c s1 ⟨H1,I1,q1⟩=>?_)
  cases c with
  | true=>exact hb wh pins s1 σ H1 Q I1 q1
  | false=>exact ⟨H1,I1,q1⟩
theorem pw_or (ha:PT X a tA) (hb:PW X (.BoolOp .Or (b :: rest) pos) tB'):PW X (.BoolOp .Or (a :: b :: rest) pos) (tOr tA tB'):=by
  intro wh pins s σ H Q I h
  refine isTrue_or (thn (ha pins s σ H _ I h) fun c s1 ⟨H1,I1,q1⟩=>?_)
  cases c with
  | true=>exact ⟨H1,I1,q1⟩
  | false=>exact hb wh pins s1 σ H1 Q I1 q1
theorem pt_not (ha:PT X a tA):PT X (.UnaryOp .Not a pos) (tNot tA):=by
  intro pins s σ H Q I h
  exact isTrue_not (ha pins s σ H (fun c H1=>Q (!c) H1) I h)
def tAndV (ta tb:TE):TE:=fun σ H Q=>ta σ H fun x H1=>∃ c,x=.bl c∧if c=true then tb σ H1 Q else Q (.bl false) H1
def tNotV (ta:TE):TE:=fun σ H Q=>ta σ H fun x H1=>∃ c,x=.bl c∧Q (.bl (!c)) H1
theorem pe_one {op} {t:TE} (h:PE X a t):PE X (.BoolOp op [a] pos) t:=fun pins s σ H Q I hw=>BoolOp_one (h pins s σ H Q I hw)
theorem pe_and (ha:PE X a ta) (hb:PE X (.BoolOp .And (b :: rest) pos) tb):PE X (.BoolOp .And (a :: b :: rest) pos) (tAndV ta tb):=by
  intro pins s σ H Q I h
  refine BoolOp_and (thn (ha pins s σ H _ I h) fun v s1 ⟨x,H1,I1,r1,q1⟩=>?_)
  obtain ⟨c,rfl,q1⟩:=q1
  cases r1
  refine wpAny_truthy_bool ?_
  cases c with
  | true=>exact hb pins s1 σ H1 Q I1 q1
  | false=>exact ⟨.bl false,H1,I1,rfl,q1⟩
theorem pe_not (ha:PE X a ta):PE X (.UnaryOp .Not a pos) (tNotV ta):=by
  intro pins s σ H Q I h
  refine UnaryOp_ (thn (ha pins s σ H _ I h) fun v s1 ⟨x,H1,I1,r1,q1⟩=>?_)
  obtain ⟨c,rfl,q1⟩:=q1
  cases r1
  exact not_of (wpAny_truthy_bool ⟨.bl (!c),H1,I1,rfl,q1⟩)
def tIf (t:TT) (ta tb:TE):TE:=fun σ H Q=>t σ H fun c H1=>if c=true then ta σ H1 Q else tb σ H1 Q
theorem pe_ifExp {c:Expr} (hc:PT X c tA) (ha:PE X a ta) (hb:PE X b tb):PE X (.IfExp c a b pos) (tIf tA ta tb):=by
  intro pins s σ H Q I h
  refine wpAny_IfExp (thn (hc pins s σ H _ I h) fun d s1 ⟨H1,I1,q1⟩=>?_)
  cases d with
  | true=>exact ha pins s1 σ H1 Q I1 q1
  | false=>exact hb pins s1 σ H1 Q I1 q1
end
end L2
namespace L2
open PySem PySem.Spec PyProof.Rows
def SqL (K:PySem.W.Frag) (H:Hp) (a:Addr) (xs:List V):Prop :=
  Rd H a (.lst xs) ∨
    ∃ (o:Obj) (its:Array Value) (n:Nat),K.lookup a=some o∧o.cls=.type "list"∧o.dict=none∧o.data=.seq its n∧its.size≤sizeLine∧Vals xs its.toList
def SqT (K:PySem.W.Frag) (H:Hp) (a:Addr) (xs:List V):Prop :=
  Rd H a (.tup xs) ∨
    ∃ (o:Obj) (its:Array Value) (n:Nat),K.lookup a=some o∧o.cls=.type "tuple"∧o.data=.seq its n∧its.size≤sizeLine∧Vals xs its.toList
def absV:Value→Option V
  | .none=>some .non
  | .bool b=>some (.bl b)
  | .int i _=>some (.int i)
  | .str x _=>some (.str x)
  | .bytes b _=>some (.byt b)
  | .float b _=>some (.flt b)
  | .ref a=>some (.ref a)
  | .type n=>some (.ty n)
  | _=>none
theorem RelV.abs {x:V} {u:Value} (r:RelV x u):absV u=some x:=by
  cases x with
  | non=>cases r; rfl
  | bl _=>cases r; rfl
  | int _=>obtain ⟨t,rfl⟩:=r; rfl
  | str _=>obtain ⟨t,rfl⟩:=r; rfl
  | byt _=>obtain ⟨t,rfl⟩:=r; rfl
  | flt _=>obtain ⟨t,rfl⟩:=r; rfl
  | ref _=>cases r; rfl
  | ty _=>cases r; rfl
theorem RelV.inj {x y:V} {u:Value} (r:RelV x u) (q:RelV y u):x=y:=Option.some.inj (r.abs.symm.trans q.abs)
theorem Vals.inj:∀ {xs ys:List V} {us:List Value},Vals xs us→Vals ys us→xs=ys
  | _,_,_,.nil,.nil=>rfl
  | _,_,_,.cons r t,.cons r' t'=>by rw [r.inj r',Vals.inj t t']
section
variable {X : Cx} {pins : List (Addr × Obj)} {σ : St} {H : Hp} {s : Shared} {a : Addr} {xs ys : List V}
theorem SqL.of {K:PySem.W.Frag} (h:H a=some (.lst xs)):SqL K H a xs:=.inl (.inl h)
theorem SqT.of {K:PySem.W.Frag} (h:H a=some (.tup xs)):SqT K H a xs:=.inl (.inl h)
theorem Inv.list (I:Inv X pins σ H s) (h:SqL X.K H a xs):∃ its:List Value,Vals xs its∧PlainL s.heap a its.toArray∧xs.length≤sizeLine:=by
  rcases h with h | ⟨o,its,n,hk,hc,hd,hs,hz,r⟩
  · obtain ⟨z,its,n,r,e⟩:=h.ok I.hok
    exact ⟨its,r,⟨_,n,e,rfl,rfl,rfl⟩,z⟩
  · refine ⟨its.toList,r,⟨o,n,I.kIn a o hk,hc,hd,by simpa using hs⟩,?_⟩
    have e:=r.length
    simp only [Array.length_toList] at e
    omega
theorem Inv.tuple (I:Inv X pins σ H s) (h:SqT X.K H a xs):∃ its:List Value,Vals xs its∧IsTup s.heap a its.toArray∧xs.length≤sizeLine:=by
  rcases h with h | ⟨o,its,n,hk,hc,hs,hz,r⟩
  · obtain ⟨z,its,r,p⟩:=h.ok I.hok
    exact ⟨its,r,p,z⟩
  · refine ⟨its.toList,r,⟨o,I.kIn a o hk,hc,n,by simpa using hs⟩,?_⟩
    have e:=r.length
    simp only [Array.length_toList] at e
    omega
theorem Inv.list_inj (I:Inv X pins σ H s) (h:SqL X.K H a xs) (h':SqL X.K H a ys):xs=ys:=by
  obtain ⟨its,r,⟨o,n,e,_,_,d⟩,_⟩:=I.list h
  obtain ⟨its',r',⟨o',n',e',_,_,d'⟩,_⟩:=I.list h'
  rw [e] at e'; cases e'
  rw [d] at d'
  injection d' with d1 _
  have:its=its':=by simpa using congrArg Array.toList d1
  subst this
  exact r.inj r'
end
abbrev Cx.wish (X:Cx) (E:Value→Shared→Prop):Cx:={ X with xe:=E }
abbrev Cx.nox (X:Cx):Cx:=X.wish fun _ _=>False
theorem Cx.Ok.wish {X:Cx} (ok:X.Ok) (E:Value→Shared→Prop):(X.wish E).Ok :=
  ⟨ok.mod,ok.kind,ok.glob,ok.blt,ok.above,ok.inj,ok.has,ok.cab,ok.hd,ok.frames,ok.stk,ok.exf,ok.bs,ok.bsz,ok.noex,ok.exfs,ok.funs,ok.frf⟩
theorem Cx.Ok.unwish {X:Cx} {E:Value→Shared→Prop} (ok:(X.wish E).Ok):X.Ok :=
  ⟨ok.mod,ok.kind,ok.glob,ok.blt,ok.above,ok.inj,ok.has,ok.cab,ok.hd,ok.frames,ok.stk,ok.exf,ok.bs,ok.bsz,ok.noex,ok.exfs,ok.funs,ok.frf⟩
section
variable {X : Cx} {pins : List (Addr × Obj)} {σ : St} {H : Hp} {s : Shared} {E : Value → Shared → Prop}
theorem Inv.wish (I:Inv X pins σ H s) (E:Value→Shared→Prop):Inv (X.wish E) pins σ H s:=⟨I.ok.wish E,I.os,I.bare,I.base,I.loc,I.cell,I.free,I.freeC,I.pin,I.hok,I.len,I.kno⟩
theorem Inv.unwish (I:Inv (X.wish E) pins σ H s):Inv X pins σ H s:=⟨I.ok.unwish,I.os,I.bare,I.base,I.loc,I.cell,I.free,I.freeC,I.pin,I.hok,I.len,I.kno⟩
theorem SP.unwish {D:Ends} {f:Flow} {s':Shared} (h:SP (X.wish E) pins D f s'):SP X pins D f s':=by
  cases f with
  | next=>obtain ⟨σ',H',I,q⟩:=h; exact ⟨σ',H',I.unwish,q⟩
  | brk=>obtain ⟨σ',H',I,q⟩:=h; exact ⟨σ',H',I.unwish,q⟩
  | cont=>obtain ⟨σ',H',I,q⟩:=h; exact ⟨σ',H',I.unwish,q⟩
  | ret u=>obtain ⟨v,σ',H',I,r,q⟩:=h; exact ⟨v,σ',H',I.unwish,r,q⟩
theorem PSs.nox {st:List Stmt} {t:TS} (h:PSs X.nox st t):PSs X st t:=fun pins s σ H D I hw =>
  wpAny_mono (h pins s σ H D (I.wish _) hw) (fun _ _ q=>q.unwish) fun _ _ z=>False.elim z
end
section
variable {X : Cx} {st : Stmt} {rest : List Stmt} {t u : TS} {e : Expr} {te : TE} {pos : Pos}
def tNext:TS:=fun D σ H=>D.nx σ H
def tSeq (t u:TS):TS:=fun D σ H=>t { D with nx:=u D } σ H
theorem pss_nil:PSs X [] tNext:=fun _ _ σ H _ I h=>wpAny_execs_nil ⟨σ,H,I,h⟩
theorem pss_cons (h1:PS X st t) (h2:PSs X rest u):PSs X (st :: rest) (tSeq t u):=by
  intro pins s σ H D I h
  refine wpAny_execs_cons (thn (h1 pins s σ H { D with nx:=u D } I h) fun f s1 q=>?_)
  cases f with
  | next =>
    obtain ⟨σ',H',I',q⟩:=q
    exact h2 pins s1 σ' H' D I' q
  | ret v=>exact q
  | brk=>exact q
  | cont=>exact q
theorem pss_one (h1:PS X st t):PSs X [st] t:=by
  intro pins s σ H D I h
  refine wpAny_execs_cons (thn (h1 pins s σ H D I h) fun f s1 q=>?_)
  cases f with
  | next=>exact wpAny_execs_nil q
  | ret v=>exact q
  | brk=>exact q
  | cont=>exact q
theorem Inv.quiet {pins:List (Addr × Obj)} {σ:St} {H:Hp} {s:Shared} (I:Inv X pins σ H s):interactive X.env=false:=by simp [interactive,I.ok.kind]
def tDrop (te:TE):TS:=fun D σ H=>te σ H fun _ H1=>D.nx σ H1
theorem ps_expr (he:PE X e te) (hs:swapsWith e none pos.line X.env=pure false:=by rfl):PS X (.Expr e pos) (tDrop te):=by
  intro pins s σ H D I h
  exact wpAny_Expr_any (thn (he pins s σ H _ I h) fun v s1 ⟨x,H1,I1,r1,q1⟩=>⟨σ,H1,I1,q1⟩) I.quiet hs
def tRet (te:TE):TS:=fun D σ H=>te σ H D.rt
theorem ps_ret (he:PE X e te):PS X (.Return (some e) pos) (tRet te):=by
  intro pins s σ H D I h
  exact wpAny_Return_some (thn (he pins s σ H _ I h) fun v s1 ⟨x,H1,I1,r1,q1⟩=>⟨x,σ,H1,I1,r1,q1⟩)
def tIfS (c:TT) (t u:TS):TS:=fun D σ H=>c σ H fun b H1=>if b=true then t D σ H1 else u D σ H1
theorem ps_if {c:Expr} {a b:List Stmt} {tc:TT} (hc:PT X c tc) (ha:PSs X a t) (hb:PSs X b u):PS X (.If c a b pos) (tIfS tc t u):=by
  intro pins s σ H D I h
  refine wpAny_If (thn (hc pins s σ H _ I h) fun d s1 ⟨H1,I1,q1⟩=>?_)
  cases d with
  | true=>exact ha pins s1 σ H1 D I1 q1
  | false=>exact hb pins s1 σ H1 D I1 q1
end
abbrev TG:=V→St→Hp→(St→Hp→Prop)→Prop
abbrev TGs:=List V→St→Hp→(St→Hp→Prop)→Prop
def PG (X:Cx) (target:Expr) (t:TG):Prop :=
  ∀ (pins:List (Addr × Obj)) (s:Shared) (σ:St) (H:Hp) (v:V) (u:Value) (Q:St→Hp→Prop),Inv X pins σ H s→RelV v u→t v σ H Q →
    wpAny (model X.prog X.w) X.A (assign target X.env u) (fun _ s'=>∃ σ' H',Inv X pins σ' H' s'∧Q σ' H') X.xe s
def PGs (X:Cx) (ts:List Expr) (t:TGs):Prop :=
  ∀ (pins:List (Addr × Obj)) (s:Shared) (σ:St) (H:Hp) (vs:List V) (us:List Value) (Q:St→Hp→Prop),Inv X pins σ H s→Vals vs us→t vs σ H Q →
    wpAny (model X.prog X.w) X.A (assignInOrder ((assignEach ts X.env).map (·.2)) us) (fun _ s'=>∃ σ' H',Inv X pins σ' H' s'∧Q σ' H') X.xe s
abbrev TSet:=V→V→V→Hp→(Hp→Prop)→Prop
def PSet (X:Cx) (t:TSet):Prop :=
  ∀ (pins:List (Addr × Obj)) (s:Shared) (σ:St) (H:Hp) (o i v:V) (ov iv u:Value) (Q:Hp→Prop),Inv X pins σ H s→RelV o ov→RelV i iv→RelV v u→t o i v H Q →
    wpAny (model X.prog X.w) X.A (setItem ov iv u) (fun _ s'=>∃ H',Inv X pins σ H' s'∧Q H') X.xe s
abbrev TIp:=V→V→Hp→VK→Prop
section
variable {X : Cx} {pos : Pos}
def gName (i:Nat):TG:=fun v σ H Q=>Q (σ.set i (some v)) H
theorem pg_name {i:Nat} {x:Str} (hN:X.N.Nodup) (hi:X.N[i]?=some x) (hx:Loc X.env.scope x) (hf:X.fn x=true∨X.env.scope.names.lookup x=some .local:=by first | exact .inl rfl | exact .inr rfl | assumption) (hkn:X.kn i=Option.none:=by rfl):PG X (.Name x pos) (gName i):=by
  intro pins s σ H v u Q I r h
  exact wpAny_assign_Name (store_ok I hN hi hx r (fun s' I'=>⟨_,H,I',h⟩) hf hkn)
def gNil:TGs:=fun vs σ H Q=>vs=[]∧Q σ H
def gCons (t:TG) (u:TGs):TGs:=fun vs σ H Q=>∃ v r,vs=v :: r∧t v σ H fun σ' H'=>u r σ' H' Q
theorem pgs_nil:PGs X [] gNil:=by
  intro pins s σ H vs us Q I r h
  obtain ⟨e,h⟩:=h
  subst e
  cases r
  exact assignInOrder_nil ⟨σ,H,I,h⟩
theorem pgs_cons {e:Expr} {es:List Expr} {t:TG} {u:TGs} (h1:PG X e t) (h2:PGs X es u)
    (hs:(assignEach (e :: es) X.env).map (·.2)=assign e X.env :: (assignEach es X.env).map (·.2):=by rfl):PGs X (e :: es) (gCons t u):=by
  intro pins s σ H vs us Q I r h
  obtain ⟨v,vr,e1,h⟩:=h
  subst e1
  cases r with
  | cons r rr =>
    rw [hs]
    refine assignInOrder_cons (thn (h1 pins s σ H _ _ _ I r h) fun _ s1 ⟨σ1,H1,I1,q1⟩=>?_)
    exact h2 pins s1 σ1 H1 _ _ Q I1 rr q1
def gTup (K:PySem.W.Frag) (n:Nat) (t:TGs):TG:=fun v σ H Q=>∃ a xs,v=.ref a∧SqT K H a xs∧xs.length=n∧t xs σ H Q
theorem pg_tup {es:List Expr} {k:Nat} {t:TGs} {n:Nat} (hc:X.calm=true) (h:PGs X es t)
    (hn:(assignEach es X.env).length=n:=by rfl) (hst:(assignEach es X.env).findIdx? (·.1)=none:=by rfl):PG X (.Tuple es k pos) (gTup X.K n t):=by
  intro pins s σ H v u Q I r hw
  obtain ⟨a,xs,e1,hq,hl,hw⟩:=hw
  subst e1
  cases r
  obtain ⟨its,rv,ht,hz⟩:=I.tuple hq
  refine assign_Tuple_tuple (I.ok.hd hc) ht (by simp [hn,← hl,rv.length]) hst fun h' hx=>?_
  have I1:Inv X pins σ H { s with heap:=h' }:=I.kept (t':=s.toks) fun b o e=>hx b o (Nat.ne_of_lt (Heap.lt_size e)) e
  exact h pins _ σ H xs _ Q I1 (by simpa using rv) hw
def gSub (to ti:TE) (t:TSet):TG:=fun v σ H Q=>to σ H fun o H1=>ti σ H1 fun i H2=>t o i v H2 fun H3=>Q σ H3
theorem pg_sub {o i:Expr} {to ti:TE} {t:TSet} (ho:PE X o to) (hi:PE X i ti) (hs:PSet X t)
    (ha:∀ v,assign (.Subscript o i pos) X.env v=(do
      let ov ← holding [v] (eval o X.env)
      let iv ← holding [v,ov] (eval i X.env)
      standAt pos
      holding [v,ov,iv] (setItem ov iv v)
      release [v,ov,iv] []):=by intro _; rfl):PG X (.Subscript o i pos) (gSub to ti t):=by
  intro pins s σ H v u Q I r h
  rw [ha]
  refine wpAny_bind (wpAny_holding (thn (ho pins s σ H _ I h) fun ov s1 ⟨x,H1,I1,r1,q1⟩=>?_))
  refine wpAny_bind (wpAny_holding (thn (hi pins s1 σ H1 _ I1 q1) fun iv s2 ⟨y,H2,I2,r2,q2⟩=>?_))
  refine wpAny_bind (wpAny_standAt (wpAny_bind (wpAny_holding (thn (hs pins s2 σ H2 x y v ov iv u _ I2 r1 r2 r q2) fun _ s3 ⟨H3,I3,q3⟩=>?_))))
  exact wpAny_release ⟨σ,H3,I3,q3⟩
def tAsg (te:TE) (g:TG):TS:=fun D σ H=>te σ H fun x H1=>g x σ H1 D.nx
theorem ps_asg {tg e:Expr} {te:TE} {g:TG} (he:PE X e te) (hg:PG X tg g) (hs:swapsWithSole [tg] e pos.line X.env=pure false:=by rfl) (hw:swappedStores [tg] e X.env=pure none:=by rfl)
    (h1:(assignEach [tg] X.env).map (·.2)=[assign tg X.env]:=by rfl):PS X (.Assign [tg] e pos) (tAsg te g):=by
  intro pins s σ H D I h
  refine wpAny_Assign_stores (thn (he pins s σ H _ I h) fun v s1 ⟨x,H1,I1,r1,q1⟩=>?_) hs hw
  rw [h1]
  exact thn (hg pins s1 σ H1 x v _ I1 r1 q1) fun _ s2 q=>q
theorem ps_set {i:Nat} {x:Str} {e:Expr} {te:TE} {pos':Pos} (hN:X.N.Nodup) (hi:X.N[i]?=some x) (hx:Loc X.env.scope x) (he:PE X e te) (hs:swapsWith e (some (.Name x pos')) pos.line X.env=pure false:=by rfl) (hf:X.fn x=true∨X.env.scope.names.lookup x=some .local:=by first | exact .inl rfl | exact .inr rfl | assumption) (hkn:X.kn i=Option.none:=by rfl) :
    PS X (.Assign [.Name x pos'] e pos) (tAsg te (gName i)):=by
  intro pins s σ H D I h
  refine wpAny_Assign_Name (thn (he pins s σ H _ I h) fun v s1 ⟨y,H1,I1,r1,q1⟩=>?_) hs
  exact store_ok I1 hN hi hx r1 (fun s2 I2=>⟨_,H1,I2,q1⟩) hf hkn
end
section
variable {X : Cx} {pos : Pos}
def tWhile (c:TT) (tb:TS):TS:=fun D σ H=>∃ W:Nat→St→Hp→Prop,(∃ m,W m σ H)∧∀ m σ H,W m σ H →
  c σ H fun b H1=>if b=true then ∃ N:St→Hp→Prop,(∀ σ' H',N σ' H'→∃ m',m' < m∧W m' σ' H')∧tb { D with nx:=N,ct:=N,bk:=D.nx } σ H1 else D.nx σ H1
theorem ps_while {c:Expr} {body:List Stmt} {tc:TT} {tb:TS} (hp:PassesOwn (model X.prog X.w) X.A X.env X.xe) (hc:PT X c tc) (hb:PSs X body tb):PS X (.While c body [] pos) (tWhile tc tb):=by
  intro pins s σ H D I h
  obtain ⟨W,⟨m0,w0⟩,turn⟩:=h
  refine wpAny_While (codeAny_whileLoop (fun n s'=>∃ σ' H',Inv X pins σ' H' s'∧W n σ' H') ?_ m0 ⟨σ,H,I,w0⟩)
  rintro n s1 ⟨σ1,H1,I1,w1⟩
  refine wpAny_passesOwn hp (thn (hc pins s1 σ1 H1 _ I1 (turn n σ1 H1 w1)) fun b s2 ⟨H2,I2,q2⟩=>?_)
  cases b with
  | true =>
    obtain ⟨N,hN,q2⟩:=q2
    rw [if_pos rfl]
    refine wpAny_passesOwn hp (thn (hb pins s2 σ1 H2 _ I2 q2) fun f s3 q3=>?_)
    cases f with
    | next =>
      obtain ⟨σ3,H3,I3,n3⟩:=q3
      obtain ⟨m',hm,w3⟩:=hN σ3 H3 n3
      exact ⟨m',hm,σ3,H3,I3,w3⟩
    | cont =>
      obtain ⟨σ3,H3,I3,n3⟩:=q3
      obtain ⟨m',hm,w3⟩:=hN σ3 H3 n3
      exact ⟨m',hm,σ3,H3,I3,w3⟩
    | brk=>exact q3
    | ret v=>exact q3
  | false =>
    rw [if_neg Bool.false_ne_true]
    exact wpAny_execs_nil ⟨σ1,H2,I2,q2⟩
end
structure It where
  go:Nat→Hp→Prop
  yld:Nat→Hp→V→Hp→Prop
  stop:Nat→Hp→Prop
def FpOk (X:Cx) (pins:List (Addr × Obj)) (H:Hp) (b:Addr):Prop :=
  H b=none∧b≠X.env.locals∧b ∉ X.fs∧(b∈X.ex∨X.s₀.heap.objs.size≤b)∧(∀ x c,X.env.cells.lookup x=some c→c≠b)∧∀ p∈X.pn ++ pins,p.1≠b
theorem Inv.fpOk {X:Cx} {pins:List (Addr × Obj)} {σ:St} {H H':Hp} {s:Shared} {b:Addr} (I:Inv X pins σ H s) (hb:s.heap.objs.size≤b) (hn:H' b=none):FpOk X pins H' b:=by
  refine ⟨hn,Nat.ne_of_gt (Nat.lt_of_lt_of_le I.lt hb),I.nofs hb,.inr (Nat.le_trans I.sz hb),fun x c e z=>?_,fun p hp z=>?_⟩
  · obtain ⟨v,q⟩:=I.cell x c e
    exact absurd (Nat.lt_of_lt_of_le q.lt (by rw [z]; exact hb)) (Nat.lt_irrefl _)
  · exact absurd (Nat.lt_of_lt_of_le (Heap.lt_size (I.pin p hp).1) (by rw [z]; exact hb)) (Nat.lt_irrefl _)
structure Turn (P:Program) (w:World) (K:PySem.W.Frag) (tg:Expr) (J:It) (fp:List Addr) (it:Addr) (tn:Nat→Heap→Prop):Prop where
  mem:it∈fp
  obj:∀ i h,tn i h→∀ b∈fp,∃ o,h.get? b=some o∧∀ v,o.data≠.cell v
  keep:∀ i h h',tn i h→(∀ b∈fp,∀ o,h.get? b=some o→h'.get? b=some o)→tn i h'
  item:∀ (X:Cx),X.prog=P→X.w=w→X.K=K→X.calm=true→∀ (i:Nat) (pins:List (Addr × Obj)) (s:Shared) (σ:St) (H:Hp) (E:Value→Shared→Prop),Inv X pins σ H s→(∀ b∈fp,FpOk X pins H b)→tn i s.heap→J.go i H →
    wpAny (model P w) X.A (pyNext (.ref it)) (fun r s1=>∃ u,r=some u ∧
      wpAny (model P w) X.A (letOwnedTupleGo tg (.ref it) u) (fun _ s2=>∃ x H',Inv X pins σ H' s2∧RelV x u∧J.yld i H x H'∧tn (i + 1) s2.heap∧∀ b∈fp,H' b=none) E s1) E s
  done:∀ (X:Cx),X.prog=P→X.w=w→X.K=K→X.calm=true→∀ (i:Nat) (pins:List (Addr × Obj)) (s:Shared) (σ:St) (H:Hp) (E:Value→Shared→Prop),Inv X pins σ H s→(∀ b∈fp,FpOk X pins H b)→tn i s.heap→J.stop i H →
    wpAny (model P w) X.A (pyNext (.ref it)) (fun r s1=>r=none∧Inv X pins σ H s1) E s
  self:∀ (A:Around) (i:Nat) (s:Shared) (Q:Value→Shared→Prop) (E:Value→Shared→Prop),tn i s.heap→Q (.ref it) s→wpAny (model P w) A (pyIter (.ref it)) Q E s
abbrev TI:=St→Hp→(It→Hp→Prop)→Prop
def PIE (X:Cx) (pins:List (Addr × Obj)) (σ:St) (tg:Expr) (R:It→Hp→Prop) (itv:Value) (s2:Shared):Prop :=
  ∃ (it:Addr) (fp:List Addr) (tn:Nat→Heap→Prop) (J:It) (H':Hp),itv=.ref it∧Inv X pins σ H' s2∧Turn X.prog X.w X.K tg J fp it tn∧tn 0 s2.heap∧(∀ b∈fp,FpOk X pins H' b)∧R J H'
def PI (X:Cx) (tg iter:Expr) (wi:TI):Prop :=
  ∀ (pins:List (Addr × Obj)) (s:Shared) (σ:St) (H:Hp) (R:It→Hp→Prop),Inv X pins σ H s→wi σ H R →
    wpAny (model X.prog X.w) X.A (eval iter X.env) (fun v s1=>wpAny (model X.prog X.w) X.A (pyIter v) (PIE X pins σ tg R) X.xe s1) X.xe s
theorem go_of {M:Model} {A:Around} {E:Value→Shared→Prop} {s:Shared} {tg:Expr} {it:Addr} {u:Value} {o:Obj} {n:String} {vs:Array Value} {Q:Unit→Shared→Prop} (ho:s.heap.get? it=some o) (hc:o.cls=.type n) (hd:o.data=.fields vs)
    (hn:["enumerate","zip","dict_itemiterator","dict_reverseitemiterator","odict_iterator","itertools.zip_longest","itertools.pairwise"].contains n=false) (hQ:Q () s):wpAny M A (letOwnedTupleGo tg (.ref it) u) Q E s:=by
  unfold letOwnedTupleGo
  cases tg <;> first
    | exact wpAny_pure hQ
    | (cases u <;> first
        | exact wpAny_pure hQ
        | (refine wpAny_bind (wpAny_load ho ?_)
           rw [hc,hd]
           show wpAny M A (if (["enumerate","zip","dict_itemiterator","dict_reverseitemiterator","odict_iterator","itertools.zip_longest","itertools.pairwise"].contains n && vs[0]? == some (rawInt _))=true then _ else _) Q E s
           rw [if_neg (by intro h; rw [hn,Bool.false_and] at h; cases h)]
           exact wpAny_pure hQ))
def Itl (K:PySem.W.Frag) (a:Addr):It :=
  ⟨fun i H=>∃ xs x,SqL K H a xs∧xs[i]?=some x,fun i H x H'=>H'=H∧∀ xs,SqL K H a xs→xs[i]?=some x,fun i H=>∃ xs,SqL K H a xs∧xs.length≤i⟩
def Itr (lo:Int) (n:Nat):It:=⟨fun i _=>i < n,fun i H x H'=>H'=H∧x=.int (lo + i),fun i _=>n≤i⟩
theorem turn_list {P:Program} {w:World} {K:PySem.W.Frag} {tg:Expr} (a it:Addr):Turn P w K tg (Itl K a) [it] it (fun i h=>h.IsListIter it a i) where
  mem:=by simp
  obj:=fun i h st b hb=>by
    have e:b=it:=by simpa using hb
    subst e
    obtain ⟨o,e,c,d⟩:=st
    exact ⟨o,e,fun v z=>by rw [d] at z; cases z⟩
  keep:=fun i h h' st k=>st.at fun o e=>k it (by simp) o e
  item:=by
    intro X hP hw hK hc i pins s σ H E I hf st hg
    subst hP hw hK
    obtain ⟨xs,x,hq,hx⟩:=hg
    obtain ⟨its,rv,p,hz⟩:=I.list hq
    obtain ⟨u,hu,ru⟩:=rv.get hx
    obtain ⟨f0,f1,f2,f3,f4,f5⟩:=hf it (by simp)
    refine wpAny_pyNext_list_item st p.isList (x:=u) (by simpa using hu) fun h' st' sb=>?_
    have I1:Inv X pins σ H { s with heap:=h' }:=I.turned (t':=s.toks) (fun b o hb e=>(sb.2 b hb).trans e) f0 f1 f3 f4 f5
    obtain ⟨o,e,c,d⟩:=id st'
    exact ⟨u,rfl,go_of (s:={ s with heap:=h' }) e c d (by decide) ⟨x,H,I1,ru,⟨rfl,fun ys hy=>by rw [I.list_inj hy hq]; exact hx⟩,st',fun b hb=>(hf b hb).1⟩⟩
  done:=by
    intro X hP hw hK hc i pins s σ H E I hf st hg
    subst hP hw hK
    obtain ⟨xs,hq,hx⟩:=hg
    obtain ⟨its,rv,p,hz⟩:=I.list hq
    obtain ⟨f0,f1,f2,f3,f4,f5⟩:=hf it (by simp)
    have hl:=rv.length
    exact wpAny_pyNext_list_end (I.ok.hd hc) st p.isList (by simp; omega) fun h' eb=>⟨rfl,I.turned (t':=s.toks) (fun b o hb e=>eb b o hb e) f0 f1 f3 f4 f5⟩
  self:=fun _ _ _ _ _ st h=>wpAny_pyIter_listiter st h
theorem turn_range {P:Program} {w:World} {K:PySem.W.Frag} {tg:Expr} (it:Addr) (lo:Int) (n:Nat):Turn P w K tg (Itr lo n) [it] it (fun i h=>IsRangeIter h it (lo + (i:Nat) * 1) ((n:Int) - (i:Nat)) 1) where
  mem:=by simp
  obj:=fun i h st b hb=>by
    have e:b=it:=by simpa using hb
    subst e
    exact ⟨_,st,fun v z=>by
      have z':Data.fields _=Data.cell v:=z
      cases z'⟩
  keep:=fun i h h' st k=>k it (by simp) _ st
  item:=by
    intro X hP hw hK hc i pins s σ H E I hf st hg
    subst hP hw hK
    obtain ⟨f0,f1,f2,f3,f4,f5⟩:=hf it (by simp)
    have W:=Walks.range (prog:=X.prog) (w:=X.w) (I.ok.hd hc) it lo 1 n
    refine W.item i s _ _ hg st fun v h' tk hv st' kk=>?_
    obtain ⟨t,rfl⟩:=hv
    have I1:Inv X pins σ H { s with heap:=h',toks:=tk }:=I.turned (fun b o hb e=>kk b o (by simpa using hb) e) f0 f1 f3 f4 f5
    refine ⟨_,rfl,go_of (s:={ s with heap:=h',toks:=tk }) (n:="range_iterator") st' rfl rfl (by decide) ⟨.int (lo + i),H,I1,⟨t,?_⟩,⟨rfl,rfl⟩,st',fun b hb=>(hf b hb).1⟩⟩
    rw [Int.mul_one]
  done:=by
    intro X hP hw hK hc i pins s σ H E I hf st hg
    subst hP hw hK
    obtain ⟨f0,f1,f2,f3,f4,f5⟩:=hf it (by simp)
    exact wpAny_pyNext_range_end (I.ok.hd hc) st (by have:n≤i:=hg; omega) fun h' eb=>⟨rfl,I.turned (t':=s.toks) (fun b o hb e=>eb b o hb e) f0 f1 f3 f4 f5⟩
  self:=fun _ _ _ _ _ st h=>wpAny_pyIter_rangeiter st h
end L2
namespace L2
open PySem PySem.Spec PyProof.Rows
section
variable {X : Cx} {tg : Expr}
def iList (K:PySem.W.Frag) (tl:TE):TI:=fun σ H R=>tl σ H fun x H1=>∃ a,x=.ref a∧(∃ xs,SqL K H1 a xs)∧R (Itl K a) H1
theorem pi_list {l:Expr} {tl:TE} (hl:PE X l tl):PI X tg l (iList X.K tl):=by
  intro pins s σ H R I h
  refine thn (hl pins s σ H _ I h) fun v s1 ⟨x,H1,I1,r1,q1⟩=>?_
  obtain ⟨a,e,⟨xs,hq⟩,q⟩:=q1
  subst e
  cases r1
  obtain ⟨its,rv,p,hz⟩:=I1.list hq
  refine wpAny_pyIter_list p.isList ?_
  refine ⟨s1.heap.objs.size,[s1.heap.objs.size],_,_,H1,rfl,I1.kept (t':=s1.toks) fun b o e=>Heap.get?_push_of_some _ e,turn_list a _,⟨_,Heap.get?_push_size _ rfl,rfl,rfl⟩,fun b hb=>?_,q⟩
  have e:b=s1.heap.objs.size:=by simpa using hb
  subst e
  exact I1.fpOk (Nat.le_refl _) (I1.hok.fresh (Nat.le_refl _))
theorem range_it {pins:List (Addr × Obj)} {σ:St} {H:Hp} {s:Shared} {R:It→Hp→Prop} {E:Value→Shared→Prop} {lo hi:Int} {t u v:Tok} {tk:Nat} (I:Inv X pins σ H s) (h1:-(2 ^ 62)≤lo) (h2:lo < 2 ^ 62) (h3:-(2 ^ 62)≤hi) (h4:hi < 2 ^ 62)
    (q:R (Itr lo (hi - lo).toNat) H):wpAny (model X.prog X.w) X.A (pyIter (.ref s.heap.objs.size)) (PIE X pins σ tg R) E { s with heap:=s.heap.push { cls:=.type "range",data:=.fields #[.int lo t,.int hi u,.int 1 v] },toks:=tk }:=by
  refine wpAny_pyIter_range (IsRange.new ..) (small_one h1 h2 h3 h4) ?_
  have I1:Inv X pins σ H { s with heap:=s.heap.push { cls:=.type "range",data:=.fields #[.int lo t,.int hi u,.int 1 v] },toks:=tk }:=I.kept fun b o e=>Heap.get?_push_of_some _ e
  refine ⟨(s.heap.push { cls:=.type "range",data:=.fields #[.int lo t,.int hi u,.int 1 v] }).objs.size,[(s.heap.push { cls:=.type "range",data:=.fields #[.int lo t,.int hi u,.int 1 v] }).objs.size],_,_,H,rfl,
    I1.kept (t':=tk) fun b o e=>Heap.get?_push_of_some _ e,turn_range _ lo (hi - lo).toNat,?_,fun b hb=>?_,q⟩
  · have e1:lo + ((0:Nat):Int) * 1=lo:=by simp
    have e2:(((hi - lo).toNat:Nat):Int) - ((0:Nat):Int)=Builtin.Range.rangeSize lo hi 1:=by rw [rangeSize_one]; split <;> omega
    show IsRangeIter _ _ (lo + ((0:Nat):Int) * 1) ((((hi - lo).toNat:Nat):Int) - ((0:Nat):Int)) 1
    rw [e1,e2]
    exact Heap.get?_push_size _ rfl
  · have e:b=(s.heap.push { cls:=.type "range",data:=.fields #[.int lo t,.int hi u,.int 1 v] }).objs.size:=by simpa using hb
    subst e
    exact I1.fpOk (Nat.le_refl _) (I1.hok.fresh (Nat.le_refl _))
def iRng1 (ta:TA):TI:=fun σ H R=>ta σ H fun vs H1=>∃ j:Int,vs=[.int j]∧-(2 ^ 62)≤j∧j < 2 ^ 62∧R (Itr 0 j.toNat) H1
theorem pi_range1 {a:Expr} {ta:TA} {p pos:Pos} (hg:Gl X "range") (hm:X.mg "range"=none) (ha:PA X [a] ta) (hs:starEach [a] X.env=[(false,eval a X.env)]:=by rfl):PI X tg (.Call (.Name "range" p) [a] [] pos) (iRng1 ta):=by
  intro pins s σ H R I h
  refine Call_ (ld_blt I hg hm boot_range (PyProof.Rows.callWith_type1 (thn (ha pos pins s σ H _ I h) fun us s1 ⟨vs,H1,I1,r1,q1⟩=>?_) hs rfl))
  obtain ⟨j,e,q1,q2,q⟩:=q1
  subst e
  cases r1 with
  | cons r rr =>
    cases rr
    obtain ⟨t,rfl⟩:=r
    exact call_range_1 (range_it I1 (by omega) (by omega) q1 q2 (by simpa using q))
def tFor (wi:TI) (g:TG) (tb:TS):TS:=fun D σ H=>wi σ H fun J H1=>∃ W:Nat→Nat→St→Hp→Prop,(∃ m,W 0 m σ H1)∧∀ i m σ H,W i m σ H →
  (J.stop i H∧D.nx σ H)∨(J.go i H∧∃ N:St→Hp→Prop,(∀ σ' H',N σ' H'→∃ m',m' < m∧W (i + 1) m' σ' H')∧∀ x H',J.yld i H x H'→g x σ H' fun σ2 H2=>tb { D with nx:=N,ct:=N,bk:=D.nx } σ2 H2)
def pinsAt (fp:List Addr) (h:Heap):List (Addr × Obj):=fp.filterMap fun b=>(h.get? b).map fun o=>(b,o)
theorem mem_pinsAt {fp:List Addr} {h:Heap} {b:Addr} {o:Obj} (hb:b∈fp) (e:h.get? b=some o):(b,o)∈pinsAt fp h:=List.mem_filterMap.mpr ⟨b,hb,by rw [e]; rfl⟩
theorem of_pinsAt {fp:List Addr} {h:Heap} {p:Addr × Obj} (hp:p∈pinsAt fp h):p.1∈fp∧h.get? p.1=some p.2:=by
  obtain ⟨b,hb,e⟩:=List.mem_filterMap.mp hp
  cases q:h.get? b with
  | none=>rw [q] at e; cases e
  | some o =>
    rw [q] at e
    have e':(b,o)=p:=Option.some.inj e
    subst e'
    exact ⟨hb,q⟩
theorem Inv.pinned {pins:List (Addr × Obj)} {σ:St} {H:Hp} {s:Shared} {fp:List Addr} (I:Inv X pins σ H s) (hf:∀ b∈fp,FpOk X pins H b) (ho:∀ b∈fp,∃ o,s.heap.get? b=some o∧∀ v,o.data≠.cell v):Inv X (pins ++ pinsAt fp s.heap) σ H s :=
  I.pins_of fun p hp=>(List.mem_append.mp hp).elim (fun z=>I.pin p (List.mem_append_right _ z)) fun z=>by
    obtain ⟨hb,e⟩:=of_pinsAt z
    obtain ⟨f0,f1,f2,_⟩:=hf p.1 hb
    obtain ⟨o,e',d⟩:=ho p.1 hb
    rw [e] at e'; cases e'
    exact ⟨e,f0,f1,f2,d⟩
theorem Inv.unpinned {pins pl:List (Addr × Obj)} {σ:St} {H:Hp} {s:Shared} (I:Inv X (pins ++ pl) σ H s):Inv X pins σ H s:=I.pins_of fun p hp=>I.pin p (List.mem_append_right _ (List.mem_append_left _ hp))
theorem ps_for {iter:Expr} {body:List Stmt} {wi:TI} {g:TG} {tb:TS} {pos:Pos} (hp:PassesOwn (model X.prog X.w) X.A X.env X.xe) (hc:X.calm=true) (hi:PI X tg iter wi) (hg:PG X tg g) (hb:PSs X body tb)
    (hs:∀ x,foldedSetIterable iter X.env x=pure x:=by intro _; rfl):PS X (.For tg iter body [] pos) (tFor wi g tb):=by
  intro pins s σ H D I h
  refine wpAny_For (thn (hi pins s σ H _ I h) fun v s1 h1=>thn h1 fun itv s2 h2=>?_) hs
  obtain ⟨it,fp,tn,J,H2,e,I2,T,st2,f2,W,⟨m0,w0⟩,turn⟩:=h2
  subst e
  have stat:∀ {H':Hp},(∀ b∈fp,H' b=none)→∀ b∈fp,FpOk X pins H' b:=fun hn b hb=>⟨hn b hb,(f2 b hb).2⟩
  refine codeAny_forLoop_any (fun n s'=>∃ i σ' H',Inv X pins σ' H' s'∧tn i s'.heap∧(∀ b∈fp,H' b=none)∧W i n σ' H') ?_ m0 ⟨0,σ,H2,I2,st2,fun b hb=>(f2 b hb).1,w0⟩
  rintro n s3 ⟨i,σ3,H3,I3,st3,fr3,w3⟩
  rcases turn i n σ3 H3 w3 with ⟨stop,qn⟩ | ⟨go,N,hN,step⟩
  · refine wpAny_passesOwn hp (thn (T.done X rfl rfl rfl hc i pins s3 σ3 H3 X.xe I3 (stat fr3) st3 stop) fun r s4 ⟨hr,I4⟩=>?_)
    subst hr
    exact wpAny_execs_nil ⟨σ3,H3,I4,qn⟩
  · refine wpAny_passesOwn hp (thn (T.item X rfl rfl rfl hc i pins s3 σ3 H3 X.xe I3 (stat fr3) st3 go) fun r s4 ⟨u,hr,h4⟩=>?_)
    subst hr
    refine wpAny_passesOwn hp (thn h4 fun _ s5 ⟨x,H5,I5,r5,y5,st5,fr5⟩=>?_)
    have I5':=I5.pinned (stat fr5) (T.obj _ _ st5)
    refine wpAny_passesOwn hp (thn (hg _ s5 σ3 H5 x u _ I5' r5 (step x H5 y5)) fun _ s6 ⟨σ6,H6,I6,q6⟩=>?_)
    refine wpAny_passesOwn hp (thn (hb _ s6 σ6 H6 _ I6 q6) fun f s7 q7=>?_)
    have again:∀ {σ7:St} {H7:Hp},Inv X (pins ++ pinsAt fp s5.heap) σ7 H7 s7→N σ7 H7→∃ m,m < n∧∃ i σ' H',Inv X pins σ' H' s7∧tn i s7.heap∧(∀ b∈fp,H' b=none)∧W i m σ' H':=fun {σ7 H7} I7 n7=>by
      obtain ⟨m',hm,w7⟩:=hN σ7 H7 n7
      refine ⟨m',hm,i + 1,σ7,H7,I7.unpinned,T.keep _ _ _ st5 fun b hb o e=>(I7.pin (b,o) (List.mem_append_right _ (List.mem_append_right _ (mem_pinsAt hb e)))).1,fun b hb=>?_,w7⟩
      obtain ⟨o,e,d⟩:=T.obj _ _ st5 b hb
      exact (I7.pin (b,o) (List.mem_append_right _ (List.mem_append_right _ (mem_pinsAt hb e)))).2.1
    cases f with
    | next=>obtain ⟨σ7,H7,I7,n7⟩:=q7; exact again I7 n7
    | cont=>obtain ⟨σ7,H7,I7,n7⟩:=q7; exact again I7 n7
    | brk=>obtain ⟨σ7,H7,I7,q7⟩:=q7; exact ⟨σ7,H7,I7.unpinned,q7⟩
    | ret v=>obtain ⟨x7,σ7,H7,I7,r7,q7⟩:=q7; exact ⟨x7,σ7,H7,I7.unpinned,r7,q7⟩
end
theorem for_list {K:PySem.W.Frag} {a:Addr} {xs:List V} {g:TG} {tb:TS} {D:Ends} {σ:St} {H:Hp} (Pv:Nat→St→Hp→Prop) (h0:Pv 0 σ H) (hl:∀ i σ H,i≤xs.length→Pv i σ H→SqL K H a xs)
    (hs:∀ i x σ H,xs[i]?=some x→Pv i σ H→g x σ H fun σ2 H2=>tb { D with nx:=Pv (i + 1),ct:=Pv (i + 1),bk:=D.nx } σ2 H2) (hd:∀ σ H,Pv xs.length σ H→D.nx σ H) :
    ∃ W:Nat→Nat→St→Hp→Prop,(∃ m,W 0 m σ H)∧∀ i m σ H,W i m σ H →
      ((Itl K a).stop i H∧D.nx σ H)∨((Itl K a).go i H∧∃ N:St→Hp→Prop,(∀ σ' H',N σ' H'→∃ m',m' < m∧W (i + 1) m' σ' H')∧∀ x H',(Itl K a).yld i H x H'→g x σ H' fun σ2 H2=>tb { D with nx:=N,ct:=N,bk:=D.nx } σ2 H2):=by
  refine ⟨fun i m σ H=>m=xs.length - i∧i≤xs.length∧Pv i σ H,⟨xs.length,by simp,Nat.zero_le _,h0⟩,?_⟩
  rintro i m σ H ⟨rfl,hi,p⟩
  have q:=hl i σ H hi p
  by_cases hlt:i < xs.length
  · refine .inr ⟨⟨xs,xs[i],q,by simp [hlt]⟩,Pv (i + 1),fun σ' H' p'=>⟨xs.length - (i + 1),by omega,rfl,hlt,p'⟩,fun x H' y=>?_⟩
    obtain ⟨e,y⟩:=y
    subst e
    exact hs i x σ _ (y xs q) p
  · have e:i=xs.length:=by omega
    subst e
    exact .inl ⟨⟨xs,q,Nat.le_refl _⟩,hd σ H p⟩
theorem for_range {lo:Int} {n:Nat} {g:TG} {tb:TS} {D:Ends} {σ:St} {H:Hp} (Pv:Nat→St→Hp→Prop) (h0:Pv 0 σ H)
    (hs:∀ i σ H,i < n→Pv i σ H→g (.int (lo + i)) σ H fun σ2 H2=>tb { D with nx:=Pv (i + 1),ct:=Pv (i + 1),bk:=D.nx } σ2 H2) (hd:∀ σ H,Pv n σ H→D.nx σ H) :
    ∃ W:Nat→Nat→St→Hp→Prop,(∃ m,W 0 m σ H)∧∀ i m σ H,W i m σ H →
      ((Itr lo n).stop i H∧D.nx σ H)∨((Itr lo n).go i H∧∃ N:St→Hp→Prop,(∀ σ' H',N σ' H'→∃ m',m' < m∧W (i + 1) m' σ' H')∧∀ x H',(Itr lo n).yld i H x H'→g x σ H' fun σ2 H2=>tb { D with nx:=N,ct:=N,bk:=D.nx } σ2 H2):=by
  refine ⟨fun i m σ H=>m=n - i∧i≤n∧Pv i σ H,⟨n,by simp,Nat.zero_le _,h0⟩,?_⟩
  rintro i m σ H ⟨rfl,hi,p⟩
  by_cases hlt:i < n
  · refine .inr ⟨hlt,Pv (i + 1),fun σ' H' p'=>⟨n - (i + 1),by omega,rfl,hlt,p'⟩,fun x H' y=>?_⟩
    obtain ⟨e,y⟩:=y
    subst e y
    exact hs i σ _ hlt p
  · have e:i=n:=by omega
    subst e
    exact .inl ⟨Nat.le_refl _,hd σ H p⟩
end L2
namespace L2
open PySem PySem.Spec PyProof.Rows
abbrev R2:=V→V→Hp→VK→Prop
def OpR (X:Cx) (f:Value→Value→Sem Value) (r:R2):Prop :=
  ∀ (pins:List (Addr × Obj)) (s:Shared) (σ:St) (H:Hp) (x y:V) (v u:Value) (Q:VK),Inv X pins σ H s→RelV x v→RelV y u→r x y H Q →
    wpAny (model X.prog X.w) X.A (f v u) (EP X pins σ Q) X.xe s
def UnR (X:Cx) (f:Value→Sem Value) (r:V→Hp→VK→Prop):Prop :=
  ∀ (pins:List (Addr × Obj)) (s:Shared) (σ:St) (H:Hp) (x:V) (v:Value) (Q:VK),Inv X pins σ H s→RelV x v→r x H Q →
    wpAny (model X.prog X.w) X.A (f v) (EP X pins σ Q) X.xe s
def CallR (X:Cx) (f:Value) (r:List V→Hp→VK→Prop):Prop :=
  ∀ (pins:List (Addr × Obj)) (s:Shared) (σ:St) (H:Hp) (xs:List V) (us:List Value) (Q:VK),Inv X pins σ H s→Vals xs us→r xs H Q →
    wpAny (model X.prog X.w) X.A (call f us) (EP X pins σ Q) X.xe s
def tOp (r:R2) (ta tb:TE):TE:=fun σ H Q=>ta σ H fun x H1=>tb σ H1 fun y H2=>r x y H2 Q
def tUn (r:V→Hp→VK→Prop) (ta:TE):TE:=fun σ H Q=>ta σ H fun x H1=>r x H1 Q
def rI (C:Int→Int→Prop) (g:Int→Int→V):R2:=fun x y H Q=>∃ i j,x=.int i∧y=.int j∧C i j∧Q (g i j) H
def rI0 (g:Int→Int→V):R2:=fun x y H Q=>∃ i j,x=.int i∧y=.int j∧Q (g i j) H
def rU (g:Int→V):V→Hp→VK→Prop:=fun x H Q=>∃ i,x=.int i∧Q (g i) H
section
variable {X : Cx} {a b c : Expr} {ta tb tc : TE} {pos : Pos}
theorem binT (ha:PE X a ta) (hb:PE X b tb) {pins:List (Addr × Obj)} {s:Shared} {σ:St} {H:Hp} {R:V→V→Hp→Prop} (I:Inv X pins σ H s)
    (h:ta σ H fun x H1=>tb σ H1 fun y H2=>R x y H2) {Q:Value→Shared→Prop} {f:Value→Value→Sem Value}
    (hf:∀ v u s2 x y H2,Inv X pins σ H2 s2→RelV x v→RelV y u→R x y H2→wpAny (model X.prog X.w) X.A (f v u) Q X.xe s2) :
    wpAny (model X.prog X.w) X.A (eval a X.env) (fun v s₁=>wpAny (model X.prog X.w) X.A (eval b X.env) (fun u s₂=>wpAny (model X.prog X.w) X.A (f v u) Q X.xe s₂) X.xe s₁) X.xe s:=by
  refine thn (ha pins s σ H _ I h) fun v s1 ⟨x,H1,I1,r1,q1⟩=>?_
  refine thn (hb pins s1 σ H1 _ I1 q1) fun u s2 ⟨y,H2,I2,r2,q2⟩=>?_
  exact hf v u s2 x y H2 I2 r1 r2 q2
theorem pe_op {op:Operator} {r:R2} (ho:OpR X (binaryOp op) r) (ha:PE X a ta) (hb:PE X b tb):PE X (.BinOp a op b pos) (tOp r ta tb):=by
  intro pins s σ H Q I h
  exact wpAny_BinOp (binT ha hb I h fun v u s2 x y H2 I2 rx ry q=>ho pins s2 σ H2 x y v u Q I2 rx ry q)
theorem pe_un {op:UnaryOp} {r:V→Hp→VK→Prop} (ho:UnR X (unaryOp op) r) (ha:PE X a ta):PE X (.UnaryOp op a pos) (tUn r ta):=by
  intro pins s σ H Q I h
  exact UnaryOp_ (thn (ha pins s σ H _ I h) fun v s1 ⟨x,H1,I1,r1,q1⟩=>ho pins s1 σ H1 x v Q I1 r1 q1)
theorem opI {f:Value→Value→Sem Value} {C:Int→Int→Prop} {g:Int→Int→Int}
    (rule:∀ (i j:Int) (t u:Tok) (s:Shared) (Q:Value→Shared→Prop) (E:Value→Shared→Prop),C i j→Q (.int (g i j) s.toks) { s with toks:=s.toks + 1 }→wpAny (model X.prog X.w) X.A (f (.int i t) (.int j u)) Q E s) :
    OpR X f (rI C fun i j=>.int (g i j)):=by
  intro pins s σ H x y v u Q I rx ry h
  obtain ⟨i,j,rfl,rfl,hc,q⟩:=h
  obtain ⟨t,rfl⟩:=rx
  obtain ⟨t',rfl⟩:=ry
  exact rule i j t t' s _ _ hc ⟨.int (g i j),H,I.tok _,⟨_,rfl⟩,q⟩
theorem opI0 {f:Value→Value→Sem Value} {g:Int→Int→Int}
    (rule:∀ (i j:Int) (t u:Tok) (s:Shared) (Q:Value→Shared→Prop) (E:Value→Shared→Prop),Q (.int (g i j) s.toks) { s with toks:=s.toks + 1 }→wpAny (model X.prog X.w) X.A (f (.int i t) (.int j u)) Q E s) :
    OpR X f (rI0 fun i j=>.int (g i j)):=by
  intro pins s σ H x y v u Q I rx ry h
  obtain ⟨i,j,rfl,rfl,q⟩:=h
  obtain ⟨t,rfl⟩:=rx
  obtain ⟨t',rfl⟩:=ry
  exact rule i j t t' s _ _ ⟨.int (g i j),H,I.tok _,⟨_,rfl⟩,q⟩
theorem opB0 {f:Value→Value→Sem Value} {g:Int→Int→Bool}
    (rule:∀ (i j:Int) (t u:Tok) (s:Shared) (Q:Value→Shared→Prop) (E:Value→Shared→Prop),Q (.bool (g i j)) s→wpAny (model X.prog X.w) X.A (f (.int i t) (.int j u)) Q E s) :
    OpR X f (rI0 fun i j=>.bl (g i j)):=by
  intro pins s σ H x y v u Q I rx ry h
  obtain ⟨i,j,rfl,rfl,q⟩:=h
  obtain ⟨t,rfl⟩:=rx
  obtain ⟨t',rfl⟩:=ry
  exact rule i j t t' s _ _ ⟨.bl (g i j),H,I,rfl,q⟩
def CPow (i j:Int):Prop:=0≤j∧j≤1000000∧i.natAbs < 2 ^ 64
theorem two_pow_nn (k:Nat):(0:Int)≤2 ^ k:=by
  rw [two_pow_cast]
  exact Int.natCast_nonneg _
theorem op_add:OpR X (binaryOp .Add) (rI0 fun i j=>.int (i + j)):=opI0 fun _ _ _ _ _ _ _ q=>add_int q
theorem op_sub:OpR X (binaryOp .Sub) (rI0 fun i j=>.int (i - j)):=opI0 fun _ _ _ _ _ _ _ q=>sub_int q
theorem op_mod:OpR X (binaryOp .Mod) (rI (fun _ j=>0 < j) fun i j=>.int (i % j)):=opI fun i j _ _ _ _ _ hc q=>by
  have h1:(0:Int) < j:=hc
  exact mod_int' (by omega) (by rw [Int.fmod_eq_emod_of_nonneg i (by omega)]; exact q)
theorem op_pow:OpR X (binaryOp .Pow) (rI CPow fun i j=>.int (i ^ j.toNat)):=opI fun _ _ _ _ _ _ _ hc q=>pow_int_small hc.1 hc.2.1 hc.2.2 q
theorem op_shl:OpR X (binaryOp .LShift) (rI CPow fun i j=>.int (i * 2 ^ j.toNat)):=opI fun _ _ _ _ _ _ _ hc q=>lshift_int_small hc.1 hc.2.1 hc.2.2 q
theorem op_shr:OpR X (binaryOp .RShift) (rI (fun _ j=>0≤j) fun i j=>.int (i / 2 ^ j.toNat)):=opI fun i j _ _ _ _ _ hc q =>
  rshift_int hc (by rw [Int.fdiv_eq_ediv_of_nonneg i (two_pow_nn _)]; exact q)
theorem op_and:OpR X (binaryOp .BitAnd) (rI0 fun i j=>.int (Builtin.bitAnd i j)):=opI0 fun _ _ _ _ _ _ _ q=>and_int q
theorem op_or:OpR X (binaryOp .BitOr) (rI0 fun i j=>.int (Builtin.bitOr i j)):=opI0 fun _ _ _ _ _ _ _ q=>or_int q
theorem unI {f:Value→Sem Value} {g:Int→Int}
    (rule:∀ (i:Int) (t:Tok) (s:Shared) (Q:Value→Shared→Prop) (E:Value→Shared→Prop),Q (.int (g i) s.toks) { s with toks:=s.toks + 1 }→wpAny (model X.prog X.w) X.A (f (.int i t)) Q E s) :
    UnR X f (rU fun i=>.int (g i)):=by
  intro pins s σ H x v Q I rx h
  obtain ⟨i,rfl,q⟩:=h
  obtain ⟨t,rfl⟩:=rx
  exact rule i t s _ _ ⟨.int (g i),H,I.tok _,⟨_,rfl⟩,q⟩
theorem un_neg:UnR X (unaryOp .USub) (rU fun i=>.int (-i)):=unI fun _ _ _ _ _ q=>neg_int q
end
def scal:V→V→Bool
  | .non,.non=>true | .non,.int _=>true | .int _,.non=>true | .non,.bl _=>true | .bl _,.non=>true | .non,.str _=>true | .str _,.non=>true
  | .int _,.int _=>true | .bl _,.bl _=>true | .str _,.str _=>true | .byt _,.byt _=>true
  | .int _,.str _=>true | .str _,.int _=>true | .bl _,.str _=>true | .str _,.bl _=>true
  | _,_=>false
def rEq:R2:=fun x y H Q=>scal x y=true∧Q (.bl (decide (x=y))) H
def rNe:R2:=fun x y H Q=>scal x y=true∧Q (.bl (!decide (x=y))) H
theorem dec_int {i j:Int}:decide (V.int i=V.int j)=(i == j):=by
  rw [Bool.eq_iff_iff]
  simp
theorem dec_bl {i j:Bool}:decide (V.bl i=V.bl j)=(i == j):=by
  rw [Bool.eq_iff_iff]
  simp
theorem dec_str {i j:Str}:decide (V.str i=V.str j)=(i == j):=by
  rw [Bool.eq_iff_iff]
  simp
theorem dec_byt {i j:Array UInt8}:decide (V.byt i=V.byt j)=(i.toList == j.toList):=by
  rw [Bool.eq_iff_iff]
  cases i
  cases j
  simp
section
variable {X : Cx} {a b c : Expr} {ta tb tc : TE} {pos : Pos}
theorem fin_bl {pins:List (Addr × Obj)} {σ:St} {H:Hp} {s:Shared} {Q:VK} {k k':Bool} (I:Inv X pins σ H s) (q:Q (.bl k) H) (e:k=k'):EP X pins σ Q (.bool k') s:=by
  subst e
  exact ⟨.bl k,H,I,rfl,q⟩
theorem op_eq:OpR X (compareOp .Eq) rEq:=by
  intro pins s σ H x y v u Q I rx ry h
  obtain ⟨hs,q⟩:=h
  cases x with
  | non =>
    cases rx
    cases y with
    | non=>cases ry; exact PySem.EqNone.eq_none_none (fin_bl I q (by simp))
    | bl j=>cases ry; exact PySem.EqNone.eq_none_bool (fin_bl I q (by simp))
    | int j=>obtain ⟨t',rfl⟩:=ry; exact PySem.EqNone.eq_none_int (fin_bl I q (by simp))
    | str j=>obtain ⟨t',rfl⟩:=ry; exact PySem.EqNone.eq_none_str (fin_bl I q (by simp))
    | _=>exact absurd (show false=true from hs) Bool.false_ne_true
  | bl i =>
    cases rx
    cases y with
    | non=>cases ry; exact PySem.EqNone.eq_bool_none (fin_bl I q (by simp))
    | bl j=>cases ry; exact eq_bool (fin_bl I q dec_bl)
    | str j=>obtain ⟨t',rfl⟩:=ry; exact PySem.EqMixed.eq_bool_str (fin_bl I q (by simp))
    | _=>exact absurd (show false=true from hs) Bool.false_ne_true
  | int i =>
    obtain ⟨t,rfl⟩:=rx
    cases y with
    | non=>cases ry; exact PySem.EqNone.eq_int_none (fin_bl I q (by simp))
    | int j=>obtain ⟨t',rfl⟩:=ry; exact eq_int (fin_bl I q dec_int)
    | str j=>obtain ⟨t',rfl⟩:=ry; exact PySem.EqMixed.eq_int_str (fin_bl I q (by simp))
    | _=>exact absurd (show false=true from hs) Bool.false_ne_true
  | str i =>
    obtain ⟨t,rfl⟩:=rx
    cases y with
    | non=>cases ry; exact PySem.EqNone.eq_str_none (fin_bl I q (by simp))
    | bl j=>cases ry; exact PySem.EqMixed.eq_str_bool (fin_bl I q (by simp))
    | int j=>obtain ⟨t',rfl⟩:=ry; exact PySem.EqMixed.eq_str_int (fin_bl I q (by simp))
    | str j=>obtain ⟨t',rfl⟩:=ry; exact eq_str (fin_bl I q dec_str)
    | _=>exact absurd (show false=true from hs) Bool.false_ne_true
  | byt i =>
    obtain ⟨t,rfl⟩:=rx
    cases y with
    | byt j=>obtain ⟨t',rfl⟩:=ry; exact PySem.W.eq_bytes (fin_bl I q dec_byt)
    | _=>exact absurd (show false=true from hs) Bool.false_ne_true
  | _=>cases y <;> exact absurd (show false=true from hs) Bool.false_ne_true
theorem op_ne:OpR X (compareOp .NotEq) rNe:=by
  intro pins s σ H x y v u Q I rx ry h
  obtain ⟨hs,q⟩:=h
  cases x with
  | non =>
    cases rx
    cases y with
    | non=>cases ry; exact PySem.EqNone.ne_none_none (fin_bl I q (by simp))
    | bl j=>cases ry; exact PySem.EqNone.ne_none_bool (fin_bl I q (by simp))
    | int j=>obtain ⟨t',rfl⟩:=ry; exact PySem.EqNone.ne_none_int (fin_bl I q (by simp))
    | str j=>obtain ⟨t',rfl⟩:=ry; exact PySem.EqNone.ne_none_str (fin_bl I q (by simp))
    | _=>exact absurd (show false=true from hs) Bool.false_ne_true
  | bl i =>
    cases rx
    cases y with
    | non=>cases ry; exact PySem.EqNone.ne_bool_none (fin_bl I q (by simp))
    | bl j=>cases ry; exact ne_bool (fin_bl I q (congrArg not dec_bl))
    | str j=>obtain ⟨t',rfl⟩:=ry; exact PySem.EqMixed.ne_bool_str (fin_bl I q (by simp))
    | _=>exact absurd (show false=true from hs) Bool.false_ne_true
  | int i =>
    obtain ⟨t,rfl⟩:=rx
    cases y with
    | non=>cases ry; exact PySem.EqNone.ne_int_none (fin_bl I q (by simp))
    | int j=>obtain ⟨t',rfl⟩:=ry; exact ne_int (fin_bl I q (congrArg not dec_int))
    | str j=>obtain ⟨t',rfl⟩:=ry; exact PySem.EqMixed.ne_int_str (fin_bl I q (by simp))
    | _=>exact absurd (show false=true from hs) Bool.false_ne_true
  | str i =>
    obtain ⟨t,rfl⟩:=rx
    cases y with
    | non=>cases ry; exact PySem.EqNone.ne_str_none (fin_bl I q (by simp))
    | bl j=>cases ry; exact PySem.EqMixed.ne_str_bool (fin_bl I q (by simp))
    | int j=>obtain ⟨t',rfl⟩:=ry; exact PySem.EqMixed.ne_str_int (fin_bl I q (by simp))
    | str j=>obtain ⟨t',rfl⟩:=ry; exact ne_str (fin_bl I q (congrArg not dec_str))
    | _=>exact absurd (show false=true from hs) Bool.false_ne_true
  | byt i =>
    obtain ⟨t,rfl⟩:=rx
    cases y with
    | byt j=>obtain ⟨t',rfl⟩:=ry; exact PySem.W.ne_bytes (fin_bl I q (congrArg not dec_byt))
    | _=>exact absurd (show false=true from hs) Bool.false_ne_true
  | _=>cases y <;> exact absurd (show false=true from hs) Bool.false_ne_true
theorem op_lt:OpR X (compareOp .Lt) (rI0 fun i j=>.bl (decide (i < j))):=opB0 fun _ _ _ _ _ _ _ q=>lt_int q
theorem op_le:OpR X (compareOp .LtE) (rI0 fun i j=>.bl (decide (i≤j))):=opB0 fun _ _ _ _ _ _ _ q=>le_int q
theorem op_gt:OpR X (compareOp .Gt) (rI0 fun i j=>.bl (decide (j < i))):=opB0 fun _ _ _ _ _ _ _ q=>gt_int q
theorem op_ge:OpR X (compareOp .GtE) (rI0 fun i j=>.bl (decide (j≤i))):=opB0 fun _ _ _ _ _ _ _ q=>ge_int q
theorem OpR.or {f:Value→Value→Sem Value} {r r':R2} (h:OpR X f r) (h':OpR X f r'):OpR X f (fun x y H Q=>r x y H Q∨r' x y H Q):=by
  intro pins s σ H x y v u Q I rx ry q
  rcases q with q | q
  · exact h pins s σ H x y v u Q I rx ry q
  · exact h' pins s σ H x y v u Q I rx ry q
theorem nomark (b:Expr) {op:CmpOp} (h:op≠.In:=by decide) (h2:op≠.NotIn:=by decide):behindInMarks op b=false:=by
  have e1:(op == CmpOp.In)=false:=by cases op <;> first | rfl | exact absurd rfl h
  have e2:(op == CmpOp.NotIn)=false:=by cases op <;> first | rfl | exact absurd rfl h2
  cases b <;> simp [behindInMarks,e1,e2]
theorem pe_cmpR {op:CmpOp} {r:R2} (ho:OpR X (compareOp op) r) (ha:PE X a ta) (hb:PE X b tb) (hm:behindInMarks op b=false):PE X (.Compare a [op] [b] pos) (tOp r ta tb):=by
  intro pins s σ H Q I h
  exact wpAny_Compare1 (binT ha hb I h fun v u s2 x y H2 I2 rx ry q=>ho pins s2 σ H2 x y v u Q I2 rx ry q) hm
def tTest (t:TE):TT:=fun σ H Q=>t σ H fun x H'=>∃ k,x=.bl k∧Q k H'
theorem pt_cmpR {op:CmpOp} {r:R2} (ho:OpR X (compareOp op) r) (ha:PE X a ta) (hb:PE X b tb) (hm:behindInMarks op b=false):PT X (.Compare a [op] [b] pos) (tTest (tOp r ta tb)):=by
  intro pins s σ H Q I h
  refine wpAny_isTrue_Compare1 (thn (ha pins s σ H _ I h) fun v s1 ⟨x,H1,I1,r1,q1⟩=>thn (hb pins s1 σ H1 _ I1 q1) fun u s2 ⟨y,H2,I2,r2,q2⟩ =>
    thn (ho pins s2 σ H2 x y v u _ I2 r1 r2 q2) fun c s3 ⟨z,H3,I3,r3,k,e,q3⟩=>?_) hm
  subst e
  cases r3
  exact wpAny_truthy_bool ⟨H3,I3,q3⟩
def tChain (r r':R2) (ta tb tc:TE):TE:=fun σ H Q=>ta σ H fun x H1=>tb σ H1 fun y H2=>r x y H2 fun z H3=>∃ k,z=.bl k ∧
  (if k=true then tc σ H3 fun w' H4=>r' y w' H4 Q else Q (.bl false) H3)
theorem pt_chain {op op':CmpOp} {r r':R2} (ho:OpR X (compareOp op) r) (ho':OpR X (compareOp op') r') (ha:PE X a ta) (hb:PE X b tb) (hc:PE X c tc)
    (hm:lastMarks [op,op'] [b,c]=false:=by with_unfolding_all rfl):PT X (.Compare a [op,op'] [b,c] pos) (tTest (tChain r r' ta tb tc)):=by
  intro pins s σ H Q I h
  refine isTrue_chain (thn (ha pins s σ H _ I h) fun v s1 ⟨x,H1,I1,r1,q1⟩=>test_link (thn (hb pins s1 σ H1 _ I1 q1) fun u s2 ⟨y,H2,I2,r2,q2⟩ =>
    thn (ho pins s2 σ H2 x y v u _ I2 r1 r2 q2) fun d s3 ⟨z,H3,I3,r3,k,e,q3⟩=>?_)) hm
  subst e
  cases r3
  refine wpAny_truthy_bool ?_
  cases k with
  | false =>
    obtain ⟨k',e',q'⟩:=q3
    cases e'
    exact ite_ff ⟨H3,I3,q'⟩
  | true =>
    refine ite_tt (test_last (thn (hc pins s3 σ H3 _ I3 q3) fun w' s4 ⟨z',H4,I4,r4,q4⟩=>thn (ho' pins s4 σ H4 y z' u w' _ I4 r2 r4 q4) fun d' s5 ⟨z2,H5,I5,r5,k2,e2,q5⟩=>?_))
    subst e2
    cases r5
    exact wpAny_truthy_bool ⟨H5,I5,q5⟩
theorem line63:(sizeLine:Nat) < 2 ^ 63:=by rw [sizeLine_eq]; decide
theorem vals1 {x:V} {us:List Value} (r:Vals [x] us):∃ u,us=[u]∧RelV x u:=by
  cases r with
  | cons r1 r2=>cases r2; exact ⟨_,rfl,r1⟩
theorem vals2 {x y:V} {us:List Value} (r:Vals [x,y] us):∃ u w',us=[u,w']∧RelV x u∧RelV y w':=by
  cases r with
  | cons r1 r2 =>
    cases r2 with
    | cons r3 r4=>cases r4; exact ⟨_,_,rfl,r1,r3⟩
theorem call_max2 (hc:X.calm=true):CallR X (.builtin "max") (fun xs H Q=>∃ i j,xs=[.int i,.int j]∧Q (.int (if j > i then j else i)) H):=by
  intro pins s σ H xs us Q I r h
  obtain ⟨i,j,rfl,q⟩:=h
  obtain ⟨u,w',rfl,⟨t,rfl⟩,⟨t',rfl⟩⟩:=vals2 r
  refine max_two_ints (I.ok.hd hc) fun h' tk k=>⟨_,H,I.kept k,?_,q⟩
  by_cases hj:j > i
  · rw [if_pos hj,if_pos hj]; exact ⟨_,rfl⟩
  · rw [if_neg hj,if_neg hj]; exact ⟨_,rfl⟩
theorem call_min2 (hc:X.calm=true):CallR X (.builtin "min") (fun xs H Q=>∃ i j,xs=[.int i,.int j]∧Q (.int (if j < i then j else i)) H):=by
  intro pins s σ H xs us Q I r h
  obtain ⟨i,j,rfl,q⟩:=h
  obtain ⟨u,w',rfl,⟨t,rfl⟩,⟨t',rfl⟩⟩:=vals2 r
  refine min_two_ints (I.ok.hd hc) fun h' tk k=>⟨_,H,I.kept k,?_,q⟩
  by_cases hj:j < i
  · rw [if_pos hj,if_pos hj]; exact ⟨_,rfl⟩
  · rw [if_neg hj,if_neg hj]; exact ⟨_,rfl⟩
end
end L2
namespace L2
open PySem PySem.Spec PyProof.Rows
structure ObjM (h:Heap) (x dx C:Addr) (mA:Str→Option Value):Prop where
  obj:h.get? x=some (PySem.W.instObj C dx)
  ns:h.Ns1 dx mA
  ne:dx≠x
theorem lookIn_ns {h:Heap} {dx:Addr} {mA:Str→Option Value} (n:h.Ns1 dx mA):∃ od,h.get? dx=some od∧∀ name,PySem.W.lookIn name od=some (mA name):=by
  obtain ⟨o,es,ep,ho,hd,hk,_,hm⟩:=n
  refine ⟨o,ho,fun name=>?_⟩
  have e:=hm name
  unfold nsFind findBy at e
  rw [← Array.find?_toList] at e
  unfold PySem.W.lookIn
  rw [hd]
  dsimp only
  split
  · rename_i y q
    rw [q] at e
    exact congrArg some e
  · rename_i q
    rw [q] at e
    have a:es.toList.any (·.refKey)=false:=by
      rw [List.any_eq_false]
      intro y hy
      obtain ⟨z,t,hkey⟩:=hk y (Array.mem_toList_iff.mp hy)
      simp [DictEntry.refKey,hkey]
    have a':¬ es.toList.any (·.refKey)=true:=by rw [a]; exact Bool.false_ne_true
    rw [if_neg a']
    exact congrArg some e
theorem ObjM.look {h:Heap} {x dx C:Addr} {mA:Str→Option Value} (I:ObjM h x dx C mA):∃ od,PySem.W.InstAt h x (PySem.W.instObj C dx) C (some od)∧∀ name,PySem.W.lookIn name od=some (mA name) :=
  let ⟨od,ho,hl⟩:=lookIn_ns I.ns
  ⟨od,⟨I.obj,rfl,rfl,ho⟩,hl⟩
section
variable {prog : Program} {w : World} {A : Around} {E : Value → Shared → Prop} {s : Shared} {K : PySem.W.Frag} {x dx C f : Addr} {mA : Str → Option Value} {name : Str} {v : Value}
theorem get_map {expr:Bool} {Q:Value→Shared→Prop} (X:K.In s.heap) (I:ObjM s.heap x dx C mA) (hg:PySem.W.plainGet K C name=true) (hh:PySem.W.hasDictIn K C=true)
    (ha:PySem.W.findIn K (.ref C) name=some none) (hv:mA name=some v) (hv':PySem.W.handedIn v=true) (h:Q v { s with toks:=s.toks + 1 }) :
    wpAny (model prog w) A (getAttr (.ref x) name expr) Q E s:=by
  obtain ⟨od,J,hl⟩:=I.look
  exact PySem.W.get_value X J (PySem.W.plainGet_of hg).1 (PySem.W.findObj_own hh ha rfl (by rw [hl,hv])) hv' h
theorem get_meth {pl:Sem Bool} {Q:Value × List Value→Shared→Prop} (X:K.In s.heap) (I:ObjM s.heap x dx C mA) (hg:PySem.W.plainGet K C name=true)
    (hf:PySem.W.findIn K (.ref C) name=some (some (.ref f))) (ht:PySem.W.isFn K (.ref f)=true) (hv:mA name=none) (h:Q (.ref f,[.ref x]) s) :
    wpAny (model prog w) A (getMethod (.ref x) name pl) Q E s:=by
  obtain ⟨od,J,hl⟩:=I.look
  exact PySem.W.method_fn X J (PySem.W.plainGet_of hg).1 (PySem.W.plainGet_of hg).2 hf (beq_iff_eq.mp ht) (by show (PySem.W.lookIn name od).map (·.isSome)=some false; rw [hl,hv]; rfl) h
theorem set_map {ns:List Str} {Q:Unit→Shared→Prop} (X:K.In s.heap) (I:ObjM s.heap x dx C mA)
    (hs:PySem.W.findIn K (.ref C) "__setattr__"=some (some (.builtin "object.__setattr__"))) (hp:PySem.W.plainOver K C=true) (ht:PySem.W.takerIn K C name=some none) (hh:PySem.W.hasDictIn K C=true)
    (hw:PySem.Within mA ns) (hsz:ns.length≤sizeLine)
    (h:∀ h',ObjM h' x dx C (fun y=>if y=name then some v else mA y)→Heap.SameBut dx s.heap h'→Q () { s with heap:=h',toks:=s.toks + 2 }) :
    wpAny (model prog w) A (setAttr (.ref x) name v) Q E s:=by
  obtain ⟨od,J,hl⟩:=I.look
  refine PySem.W.set_plain X J hs (PySem.W.osa_open (s:={ s with toks:=s.toks + 1 }) (r:=none) X J hp ht fun b=>?_)
  obtain ⟨cd,hc,hd'⟩:=PySem.W.any_some hh
  have hx:s.heap.get? x=some ⟨.ref C,some dx,.plain,#[]⟩:=I.obj
  refine wpAny_bind (wpAny_pure (wpAny_bind (wpAny_bind (wpAny_loadPart hx (wpAny_bind (PySem.W.Looks.here (s:={ s with toks:=s.toks + 1 }) (PySem.W.looks_clsIn X hc) ?_))))))
  rw [hd']
  refine wpAny_pure (a:=some dx) (wpAny_bind (wpAny_pure (wpAny_bind ?_)))
  refine wpAny_nsSet1 (s:={ s with toks:=s.toks + 1 }) I.ns fun h' hn2 hs2=>?_
  obtain ⟨oD,esD,epD,hoD,hdD,hcD⟩:=hn2.count (PySem.Within.cons name v hw)
  refine wpAny_bind (wpAny_lookBehind hoD (by rw [hdD]; exact pastItsLine_dict (Nat.le_trans hcD (by rw [List.length_cons]; omega))) ?_)
  exact wpAny_pure (h _ ⟨(hs2.2 _ (Ne.symm I.ne)).trans I.obj,hn2,I.ne⟩ hs2)
theorem make_map {R:Result→Shared→Prop} {vs:List Value} {kw:List (Str × Value)} (X:K.In s.heap) (hm:PySem.W.makesIn K C=true)
    (hi:PySem.W.findIn K (.ref C) "__init__"=some (some (.ref f))) (hf:PySem.W.typeIn K (.ref f)=some (.type "function"))
    (h:codeAny (model prog w) (A.under (.builtin "type.__call__" ⟨.ref C :: vs,kw⟩)) (.call (.ref f) ⟨.ref (s.heap.objs.size + 1) :: vs,kw⟩) (PySem.W.InitBack (s.heap.objs.size + 1) R)
      { s with heap:=(s.heap.push PySem.W.emptyDict).push (PySem.W.instObj C s.heap.objs.size) }) :
    codeAny (model prog w) A (.call (.ref C) ⟨vs,kw⟩) R s:=by
  obtain ⟨hh,g,d,t,os⟩:=s
  exact PySem.W.make_core (PySem.W.makes_of X hm) (PySem.W.looks_findIn X hi) (fun self=>PySem.W.bind_fn X self hf) (.inl rfl) h
theorem make_map0 {R:Result→Shared→Prop} (X:K.In s.heap) (hm:PySem.W.makesIn K C=true)
    (hi:PySem.W.findIn K (.ref C) "__init__"=some (some (.builtin "object.__init__")))
    (hb:∀ self,PySem.W.Looks (model prog w) s.heap (bindSpecial (.builtin "object.__init__") self) (.builtin "object.__init__",[self]))
    (h:codeAny (model prog w) (A.under (.builtin "type.__call__" ⟨[.ref C],[]⟩)) (.call (.builtin "object.__init__") ⟨[.ref (s.heap.objs.size + 1)],[]⟩) (PySem.W.InitBack (s.heap.objs.size + 1) R)
      { s with heap:=(s.heap.push PySem.W.emptyDict).push (PySem.W.instObj C s.heap.objs.size) }) :
    codeAny (model prog w) A (.call (.ref C) ⟨[],[]⟩) R s:=by
  obtain ⟨hh,g,d,t,os⟩:=s
  exact PySem.W.make_core (PySem.W.makes_of X hm) (PySem.W.looks_findIn X hi) hb (.inr ⟨rfl,rfl⟩) h
end
def putF (f:Str) (v:V):List (Str × V)→List (Str × V)
  | []=>[(f,v)]
  | (g,x) :: r=>if g=f then (g,v) :: r else (g,x) :: putF f v r
theorem lookup_putF (f g:Str) (v:V):∀ fs:List (Str × V),(putF f v fs).lookup g=if g=f then some v else fs.lookup g
  | []=>by
    show List.lookup g [(f,v)]=_
    by_cases h:g=f
    · have hb:(g == f)=true:=beq_iff_eq.mpr h
      simp only [List.lookup,hb,if_pos h]
    · have hb:(g == f)=false:=beq_eq_false_iff_ne.mpr h
      simp only [List.lookup,hb,if_neg h]
  | (k,x) :: r=>by
    have ih:=lookup_putF f g v r
    rw [show putF f v ((k,x) :: r)=(if k=f then (k,v) :: r else (k,x) :: putF f v r) from rfl]
    by_cases hk:k=f
    · rw [if_pos hk]
      by_cases h:g=k
      · have hb:(g == k)=true:=beq_iff_eq.mpr h
        simp only [List.lookup,hb,if_pos (h.trans hk)]
      · have hb:(g == k)=false:=beq_eq_false_iff_ne.mpr h
        simp only [List.lookup,hb,if_neg (fun e:g=f=>h (e.trans hk.symm))]
    · rw [if_neg hk]
      by_cases h:g=k
      · have hb:(g == k)=true:=beq_iff_eq.mpr h
        simp only [List.lookup,hb,if_neg (fun e:g=f=>hk (h.symm.trans e))]
      · have hb:(g == k)=false:=beq_eq_false_iff_ne.mpr h
        simp only [List.lookup,hb]
        exact ih
theorem keys_putF (f:Str) (v:V):∀ fs:List (Str × V),f∈(putF f v fs).map (·.1)∧∀ g,g∈fs.map (·.1)→g∈(putF f v fs).map (·.1)
  | []=>⟨by simp [putF],fun g h=>by simp at h⟩
  | (k,x) :: r=>by
    obtain ⟨i1,i2⟩:=keys_putF f v r
    rw [show putF f v ((k,x) :: r)=(if k=f then (k,v) :: r else (k,x) :: putF f v r) from rfl]
    by_cases hk:k=f
    · rw [if_pos hk]
      subst hk
      exact ⟨by simp,fun g h=>by simpa using h⟩
    · rw [if_neg hk]
      refine ⟨?_,fun g h=>?_⟩
      · rw [List.map_cons]
        exact List.mem_cons_of_mem _ i1
      · rw [List.map_cons] at h ⊢
        rcases List.mem_cons.mp h with e | e
        · exact List.mem_cons.mpr (.inl e)
        · exact List.mem_cons_of_mem _ (i2 g e)
theorem length_putF (f:Str) (v:V):∀ fs:List (Str × V),(putF f v fs).length≤fs.length + 1
  | []=>by simp [putF]
  | (k,x) :: r=>by
    have ih:=length_putF f v r
    rw [show putF f v ((k,x) :: r)=(if k=f then (k,v) :: r else (k,x) :: putF f v r) from rfl]
    by_cases hk:k=f
    · rw [if_pos hk,List.length_cons,List.length_cons]; omega
    · rw [if_neg hk,List.length_cons,List.length_cons]; omega
theorem RelO.some_of {v:V} {o:Option Value} (r:RelO (some v) o):∃ u,o=some u∧RelV v u:=by
  cases o with
  | none=>exact (show False from r).elim
  | some u=>exact ⟨u,rfl,r⟩
theorem RelO.none_of {o:Option Value} (r:RelO none o):o=none:=by
  cases o with
  | none=>rfl
  | some u=>exact (show False from r).elim
theorem handed_of {v:V} {u:Value} (r:RelV v u):PySem.W.handedIn u=true:=by
  cases v with
  | non=>cases (show u=Value.none from r); rfl
  | bl b=>cases (show u=Value.bool b from r); rfl
  | int i=>obtain ⟨t,e⟩:=(show ∃ t,u=Value.int i t from r); cases e; rfl
  | str x=>obtain ⟨t,e⟩:=(show ∃ t,u=Value.str x t from r); cases e; rfl
  | byt b=>obtain ⟨t,e⟩:=(show ∃ t,u=Value.bytes b t from r); cases e; rfl
  | flt b=>obtain ⟨t,e⟩:=(show ∃ t,u=Value.float b t from r); cases e; rfl
  | ref a=>cases (show u=Value.ref a from r); rfl
  | ty n=>cases (show u=Value.type n from r); rfl
section
variable {P : Program} {w : World} {H H' : Hp} {h h' : Heap} {a C dx : Addr} {fs fs' : List (Str × V)}
theorem ins_get (hok:HOk P w H h) (e:H a=some (.ins C dx fs)):∃ mA,ObjM h a dx C mA∧(∀ f,RelO (fs.lookup f) (mA f))∧PySem.Within mA (fs.map (·.1))∧fs.length≤1000∧H dx=some (.own a):=by
  obtain ⟨d,z,ne,ob,mA,n,r,q⟩:=(show ObjOk P w H h a (.ins C dx fs) from hok a _ e)
  exact ⟨mA,⟨ob,n,ne⟩,r,q,z,d⟩
end
structure Cls (K:PySem.W.Frag) (C:Addr):Prop where
  pg:PySem.W.plainGet K C Str.empty=true
  hd:PySem.W.hasDictIn K C=true
  po:PySem.W.plainOver K C=true
  sa:PySem.W.findIn K (.ref C) "__setattr__"=some (some (.builtin "object.__setattr__"))
theorem Cls.get {K:PySem.W.Frag} {C:Addr} (c:Cls K C) (f:Str):PySem.W.plainGet K C f=true:=c.pg
def NoAttr (K:PySem.W.Frag) (C:Addr) (f:Str):Prop:=PySem.W.findIn K (.ref C) f=some none
theorem NoAttr.taker {K:PySem.W.Frag} {C:Addr} {f:Str} (n:NoAttr K C f):PySem.W.takerIn K C f=some none:=by
  unfold PySem.W.takerIn
  rw [show PySem.W.findIn K (.ref C) f=some none from n]
  rfl
structure Con (K:PySem.W.Frag) (C:Addr) (f:Str) (v:V) (u:Value):Prop where
  at_:PySem.W.findIn K (.ref C) f=some (some u)
  rel:RelV v u
  get:PySem.W.specialIn K u "__get__"=some none
  cp:PySem.W.copiedNames.contains f=false
structure Meth (K:PySem.W.Frag) (C:Addr) (m:Str) (f:Addr):Prop where
  at_:PySem.W.findIn K (.ref C) m=some (some (.ref f))
  fn:PySem.W.isFn K (.ref f)=true
  kp:PySem.W.keepIn K (.ref f)=true
section
variable {X : Cx} {pins : List (Addr × Obj)} {σ : St} {H : Hp} {s : Shared} {a C dx : Addr} {fs : List (Str × V)} {f : Str} {v : V} {A : Around} {E : Value → Shared → Prop}
theorem getattr_ok {b:Bool} {Q:Value→Shared→Prop} (I:Inv X pins σ H s) (e:H a=some (.ins C dx fs)) (c:Cls X.K C) (n:NoAttr X.K C f) (l:fs.lookup f=some v)
    (h:∀ u s',Inv X pins σ H s'→RelV v u→Q u s'):wpAny (model X.prog X.w) A (getAttr (.ref a) f b) Q E s:=by
  obtain ⟨mA,O,r,_,_,_⟩:=ins_get I.hok e
  obtain ⟨u,hu,ru⟩:=RelO.some_of (v:=v) (o:=mA f) (by rw [← l]; exact r f)
  exact get_map I.kIn O (c.get f) c.hd n hu (handed_of ru) (h u _ (I.tok _) ru)
theorem getmeth_ok {m:Str} {g:Addr} {pl:Sem Bool} {Q:Value × List Value→Shared→Prop} (I:Inv X pins σ H s) (e:H a=some (.ins C dx fs)) (c:Cls X.K C) (k:Meth X.K C m g) (l:fs.lookup m=none)
    (h:Q (.ref g,[.ref a]) s):wpAny (model X.prog X.w) A (getMethod (.ref a) m pl) Q E s:=by
  obtain ⟨mA,O,r,_,_,_⟩:=ins_get I.hok e
  have hn:mA m=none:=RelO.none_of (by rw [← l]; exact r m)
  exact get_meth I.kIn O (c.get m) k.at_ k.fn hn h
theorem setattr_ok {y:V} {u:Value} {Q:Unit→Shared→Prop} (I:Inv X pins σ H s) (e:H a=some (.ins C dx fs)) (c:Cls X.K C) (n:NoAttr X.K C f) (hl:fs.length < 1000) (ry:RelV y u)
    (h:∀ s',Inv X pins σ (upd H a (.ins C dx (putF f y fs))) s'→Q () s'):wpAny (model X.prog X.w) A (setAttr (.ref a) f u) Q E s:=by
  obtain ⟨mA,O,r,wi,_,ho⟩:=ins_get I.hok e
  have hz:(fs.map (·.1)).length≤sizeLine:=by rw [List.length_map,sizeLine_eq]; omega
  refine set_map I.kIn O c.sa c.po n.taker c.hd wi hz fun h' O' sb=>h _ ?_
  have hd:∃ o,h'.get? dx=some o:=let ⟨o,_,_,e',_⟩:=O'.ns; ⟨o,e'⟩
  refine I.write (x:=a) (e:=dx) (by rw [e]; exact True.intro) (.inr ho) (fun b q hb z=>(sb.2 b hb).trans z) hd ?_
  refine ⟨by rw [upd_ne O.ne]; exact ho,?_,O.ne,O'.obj,_,O'.ns,fun g=>?_,fun g hg=>?_⟩
  · have:=length_putF f y fs; omega
  · show RelO ((putF f y fs).lookup g) (if g=f then some u else mA g)
    rw [lookup_putF]
    by_cases q:g=f
    · rw [if_pos q,if_pos q]; exact ry
    · rw [if_neg q,if_neg q]; exact r g
  · by_cases q:g=f
    · rw [q]; exact (keys_putF f y fs).1
    · refine (keys_putF f y fs).2 g (wi g fun z=>hg ?_)
      show (if g=f then some u else mA g)=none
      rw [if_neg q]; exact z
theorem Inv.made (I:Inv X pins σ H s):Inv X pins σ (upd (upd H s.heap.objs.size (.own (s.heap.objs.size + 1))) (s.heap.objs.size + 1) (.ins C s.heap.objs.size []))
    { s with heap:=(s.heap.push PySem.W.emptyDict).push (PySem.W.instObj C s.heap.objs.size) }:=by
  have e1:(s.heap.push PySem.W.emptyDict).get? s.heap.objs.size=some PySem.W.emptyDict:=Heap.get?_push_size s.heap rfl
  have e2:((s.heap.push PySem.W.emptyDict).push (PySem.W.instObj C s.heap.objs.size)).get? (s.heap.objs.size + 1)=some (PySem.W.instObj C s.heap.objs.size):=by
    have:=Heap.get?_push_size (s.heap.push PySem.W.emptyDict) (o:=PySem.W.instObj C s.heap.objs.size) rfl
    rwa [Heap.size_push] at this
  have e3:(s.heap.push PySem.W.emptyDict).Ns s.heap.objs.size (fun _=>none):=⟨PySem.W.emptyDict,#[],_,e1,rfl,(fun e he=>absurd he (by simp)),fun _=>rfl⟩
  have I1:=I.laid (a:=s.heap.objs.size) (o:=.own (s.heap.objs.size + 1)) (h':=s.heap.push PySem.W.emptyDict) (t':=s.toks) (fun b u q=>Heap.get?_push_of_some _ q) (Nat.le_refl _) ⟨_,e1⟩
  refine I1.laid (a:=s.heap.objs.size + 1) (o:=.ins C s.heap.objs.size []) (t':=s.toks) (fun b u q=>Heap.get?_push_of_some _ q) (Nat.le_of_eq (Heap.size_push _ _)) ?_
  have ne:s.heap.objs.size≠s.heap.objs.size + 1:=Nat.ne_of_lt (Nat.lt_succ_self _)
  refine ⟨by rw [upd_ne ne,upd_same],Nat.zero_le _,ne,e2,fun _=>none,(Heap.Ns1.of_empty e3).at fun o q=>Heap.get?_push_of_some _ q,fun _=>True.intro,fun y hy=>absurd rfl hy⟩
theorem attr_of {prog:Program} {w:World} {env:Env} {e:Expr} {f:Str} {pos:Pos} {s:Shared} {Q:Value→Shared→Prop} (hb:attributeBase e f env (eval e env)=eval e env)
    (h:wpAny (model prog w) A (eval e env) (fun o s₁=>wpAny (model prog w) A (getAttr o f true) Q E s₁) E s):wpAny (model prog w) A (eval (.Attribute e f pos) env) Q E s :=
  Attribute_any_ h (by rw [arm_eval_Attribute,hb])
end
def tFld (K:PySem.W.Frag) (ta:TE) (f:Str):TE:=fun σ H Q=>ta σ H fun x H1=>∃ a C dx fs v,x=.ref a∧H1 a=some (.ins C dx fs)∧Cls K C∧NoAttr K C f∧fs.lookup f=some v∧Q v H1
def sFld (K:PySem.W.Frag) (ta tv:TE) (f:Str):TS:=fun D σ H=>tv σ H fun y H1=>ta σ H1 fun x H2=>∃ a C dx fs,x=.ref a∧H2 a=some (.ins C dx fs)∧Cls K C∧NoAttr K C f∧fs.length < 1000 ∧
  D.nx σ (upd H2 a (.ins C dx (putF f y fs)))
section
variable {X : Cx} {o e value : Expr} {f : Str} {pos pos' tpos : Pos} {ta tv : TE}
theorem pe_fld (he:PE X e ta) (hb:attributeBase e f X.env (eval e X.env)=eval e X.env):PE X (.Attribute e f pos) (tFld X.K ta f):=by
  intro pins s σ H Q I h
  refine attr_of hb (thn (he pins s σ H _ I h) fun u s1 ⟨x,H1,I1,rx,a,C,dx,fs,v,ex,ea,c,n,l,q⟩=>?_)
  subst ex
  obtain rfl:u=Value.ref a:=rx
  exact getattr_ok I1 ea c n l fun u' s2 I2 ru=>⟨v,H1,I2,ru,q⟩
theorem ps_fld (ha:PE X o ta) (hv:PE X value tv) (hs:swapsWith value (some (.Attribute o f pos')) pos.line X.env=pure false):PS X (.Assign [.Attribute o f pos'] value pos) (sFld X.K ta tv f):=by
  intro pins s σ H D I h
  refine plainObj_wpAny_Assign_Attribute (thn (hv pins s σ H _ I h) fun u s1 ⟨y,H1,I1,ry,q⟩=>thn (ha pins s1 σ H1 _ I1 q) fun ov s2 ⟨x,H2,I2,rx,a,C,dx,fs,ex,ea,c,n,l,q2⟩=>?_) hs
  subst ex
  obtain rfl:ov=Value.ref a:=rx
  exact setattr_ok I2 ea c n l ry fun s3 I3=>⟨σ,_,I3,q2⟩
end
section
variable {X : Cx} {pins : List (Addr × Obj)} {σ : St} {H : Hp} {s : Shared} {A : Around} {E : Value → Shared → Prop} {Q : Value → Shared → Prop} {c : Value} {b : Bool}
inductive TyOf (K:PySem.W.Frag) (H:Hp):V→Value→Prop where
  | non:TyOf K H .non (.type "NoneType")
  | bl (x:Bool):TyOf K H (.bl x) (.type "bool")
  | int (i:Int):TyOf K H (.int i) (.type "int")
  | str (x:Str):TyOf K H (.str x) (.type "str")
  | flt (x:UInt64):TyOf K H (.flt x) (.type "float")
  | lst {a:Addr} {xs:List V} (e:H a=some (.lst xs)):TyOf K H (.ref a) (.type "list")
  | frz {a:Addr} {o:Obj} {xs:List V} (e:H a=some (.frz o (.lst xs))):TyOf K H (.ref a) (.type "list")
  | tup {a:Addr} {xs:List V} (e:H a=some (.tup xs)):TyOf K H (.ref a) (.type "tuple")
  | dK {a:Addr} {kvs:List (Key × V)} (e:H a=some (.dK kvs)):TyOf K H (.ref a) (.type "dict")
  | dT {a:Addr} {kvs:List (List Key × V)} (e:H a=some (.dT kvs)):TyOf K H (.ref a) (.type "dict")
  | ins {a C dx:Addr} {fs:List (Str × V)} (e:H a=some (.ins C dx fs)) (cl:Cls K C) (ha:PySem.W.findIn K (.ref C) "__class__"=some (some (.builtin "object.__class__")))
      (hn:PySem.W.specialIn K (.builtin "object.__class__") "__get__"=some (some (.builtin "getset_descriptor.__get__"))) (htk:PySem.W.takesIn K (.builtin "object.__class__")=some true)
      (hm:PySem.W.mroIn K C (.type "object")=some true):TyOf K H (.ref a) (.ref C)
theorem isinst_ok {x:V} {u t:Value} (I:Inv X pins σ H s) (rx:RelV x u) (ty:TyOf X.K H x t) (e:PySem.W.kitOne X.K t c=some b) (h:∀ tk,Q (.bool b) { s with toks:=tk }) :
    wpAny (model X.prog X.w) A (call (.builtin "isinstance") [u,c]) Q E s:=by
  cases ty with
  | non=>cases (show u=Value.none from rx); exact PySem.W.kia_one PySem.W.kitx_none I.kIn True.intro e (fun z=>nomatch z) h
  | bl y=>cases (show u=Value.bool y from rx); exact PySem.W.kia_one PySem.W.kitx_bool I.kIn True.intro e (fun z=>nomatch z) h
  | int i=>obtain ⟨t,q⟩:=(show ∃ t,u=Value.int i t from rx); cases q; exact PySem.W.kia_one PySem.W.kitx_int I.kIn True.intro e (fun z=>nomatch z) h
  | str y=>obtain ⟨t,q⟩:=(show ∃ t,u=Value.str y t from rx); cases q; exact PySem.W.kia_one PySem.W.kitx_str I.kIn True.intro e (fun z=>nomatch z) h
  | flt y=>obtain ⟨t,q⟩:=(show ∃ t,u=Value.float y t from rx); cases q; exact PySem.W.kia_one PySem.W.kitx_float I.kIn True.intro e (fun z=>nomatch z) h
  | @lst a xs ea =>
    cases (show u=Value.ref a from rx)
    obtain ⟨_,_,n,_,h1⟩:=(show ObjOk X.prog X.w H s.heap a (.lst xs) from I.hok a _ ea)
    exact PySem.W.kia_one PySem.W.kitx_list I.kIn ⟨_,h1,rfl⟩ e (fun z=>nomatch z) h
  | @frz a ob xs ea =>
    cases (show u=Value.ref a from rx)
    obtain ⟨_,_,_,n,_,h1⟩:=(show ObjOk X.prog X.w H s.heap a (.frz ob (.lst xs)) from I.hok a _ ea)
    exact PySem.W.kia_one PySem.W.kitx_list I.kIn ⟨_,h1,rfl⟩ e (fun z=>nomatch z) h
  | @tup a xs ea =>
    cases (show u=Value.ref a from rx)
    obtain ⟨_,_,_,p⟩:=(show ObjOk X.prog X.w H s.heap a (.tup xs) from I.hok a _ ea)
    obtain ⟨o,h1,h2,_⟩:=p
    exact PySem.W.kia_one PySem.W.kitx_tuple I.kIn ⟨o,h1,h2⟩ e (fun z=>nomatch z) h
  | @dK a kvs ea =>
    cases (show u=Value.ref a from rx)
    obtain ⟨_,_,vs,_,p⟩:=(show ObjOk X.prog X.w H s.heap a (.dK kvs) from I.hok a _ ea)
    obtain ⟨o,es,ep,h1,h2,_⟩:=p
    exact PySem.W.kia_one PySem.W.kitx_dict I.kIn ⟨o,h1,h2.1⟩ e (fun z=>nomatch z) h
  | @dT a kvs ea =>
    cases (show u=Value.ref a from rx)
    obtain ⟨_,_,xs,_,o,es,ep,h1,h2,_⟩:=(show ObjOk X.prog X.w H s.heap a (.dT kvs) from I.hok a _ ea)
    exact PySem.W.kia_one PySem.W.kitx_dict I.kIn ⟨o,h1,h2.1⟩ e (fun z=>nomatch z) h
  | @ins a C dx fs ea cl ha hn htk hm =>
    cases (show u=Value.ref a from rx)
    obtain ⟨mA,O,_⟩:=ins_get I.hok ea
    obtain ⟨od,J,_⟩:=O.look
    exact PySem.W.kia_one (PySem.W.kitx_own (cl.get _) cl.hd ha hn htk hm) I.kIn J e (fun z=>nomatch z) h
end
end L2
namespace L2
open PySem PySem.Spec PyProof.Rows
structure Room (k:Nat) (A:Around):Prop where
  hd:A.handled=none
  dp:A.depth + 3 * k + 5 < recursionLimit
  un:A.units + 16 * k + 200 < cLine
  gd:A.guards=some []
theorem Room.mono {j k:Nat} {A:Around} (r:Room k A) (h:j≤k):Room j A:=⟨r.hd,by have:=r.dp; omega,by have:=r.un; omega,r.gd⟩
theorem Room.deeper {k:Nat} {A:Around} (r:Room (k + 1) A) (env:Env):Room k (A.deeper env) :=
  ⟨r.hd,by have:=r.dp; show A.depth + 1 + 3 * k + 5 < _; omega,by have:=r.un; show A.units + 3 + 16 * k + 200 < _; omega,r.gd⟩
theorem make_depth {A:Around} {C:Addr} {us:List Value} {kw:List (Str × Value)}:(A.under (.builtin "type.__call__" ⟨.ref C :: us,kw⟩)).depth=A.depth + 1:=by
  first | rfl | simp [Around.under,Code.weight,Code.isCreation,Code.isGuard,Code.isCaller,Code.frames,Code.isFrame,guardIds]
theorem make_units {A:Around} {C:Addr} {us:List Value} {kw:List (Str × Value)}:(A.under (.builtin "type.__call__" ⟨.ref C :: us,kw⟩)).units=A.units + 1:=by
  first | rfl | simp [Around.under,Code.cUnits,Code.frames,Code.isFrame]
theorem make_guards {A:Around} {C:Addr} {us:List Value} {kw:List (Str × Value)} (h:A.guards=some []):(A.under (.builtin "type.__call__" ⟨.ref C :: us,kw⟩)).guards=some []:=by
  have e:(Code.builtin "type.__call__" ⟨.ref C :: us,kw⟩).guards=[]:=by first | rfl | simp [Code.guards,Code.isGuard,guardIds]
  show pushGuards (Code.builtin "type.__call__" ⟨.ref C :: us,kw⟩).guards A.guards=some []
  rw [e,h]; rfl
theorem Room.make {k:Nat} {A:Around} (r:Room (k + 1) A) (C:Addr) (us:List Value) (kw:List (Str × Value)):Room k (A.under (.builtin "type.__call__" ⟨.ref C :: us,kw⟩)) :=
  ⟨r.hd,by have:=r.dp; rw [make_depth]; omega,by have:=r.un; rw [make_units]; omega,make_guards r.gd⟩
theorem Room.depth {k:Nat} {A:Around} (r:Room k A):A.depth < recursionLimit:=by have:=r.dp; omega
theorem Room.units {k:Nat} {A:Around} (r:Room k A):A.units + 64 < cLine:=by have:=r.un; omega
theorem Room.units0 {k:Nat} {A:Around} (r:Room k A):A.units < cLine:=by have:=r.un; omega
def tNil:TA:=fun _ H Q=>Q [] H
def tCons (ta:TE) (tr:TA):TA:=fun σ H Q=>ta σ H fun x H1=>tr σ H1 fun xs H2=>Q (x :: xs) H2
section
variable {X : Cx} {e : Expr} {es : List Expr} {te : TE} {t : TA} {pos : Pos}
theorem pa_nil:PA X [] tNil:=fun _ _ _ _ H Q I h=>Calls.spliced_nil ⟨[],H,I,.nil,h⟩
theorem pa_cons (ha:PE X e te) (hr:PA X es t) (hs:starEach (e :: es) X.env=(false,eval e X.env) :: starEach es X.env:=by rfl):PA X (e :: es) (tCons te t):=by
  intro pos pins s σ H Q I h
  rw [hs]
  show wpAny _ _ (spliced ((false,eval e X.env) :: backTo pos (starEach es X.env))) _ _ s
  refine Calls.spliced_cons (thn (ha pins s σ H _ I h) fun u s1 ⟨x,H1,I1,r1,q1⟩=>?_)
  exact thn (hr pos pins s1 σ H1 _ I1 q1) fun us s2 ⟨xs,H2,I2,r2,q2⟩=>⟨x :: xs,H2,I2,.cons r1 r2,q2⟩
def tTup (t:TA):TE:=fun σ H Q=>t σ H fun xs H1=>xs.length≤sizeLine∧∀ p,H1 p=none→Q (.ref p) (upd H1 p (.tup xs))
def tLst (t:TA):TE:=fun σ H Q=>t σ H fun xs H1=>xs.length≤sizeLine∧∀ p,H1 p=none→Q (.ref p) (upd H1 p (.lst xs))
theorem pe_tup {x1} (h:PA X es t):PE X (.Tuple es x1 pos) (tTup t):=by
  intro pins s σ H Q I hq
  refine wpAny_Tuple_spliced (thn (h pos pins s σ H _ I hq) fun us s1 ⟨xs,H1,I1,r,z,q⟩=>⟨by rw [← r.length]; exact z,?_⟩)
  have hf:H1 s1.heap.objs.size=none:=I1.hok.fresh (Nat.le_refl _)
  refine ⟨.ref s1.heap.objs.size,upd H1 s1.heap.objs.size (.tup xs),I1.laid (t':=s1.toks) (fun b u e=>Heap.get?_push_of_some _ e) (Nat.le_refl _) ?_,rfl,q _ hf⟩
  exact ⟨z,us,r,⟨_,Heap.get?_push_size _ rfl,rfl,_,rfl⟩⟩
theorem pe_lst (h:PA X es t):PE X (.List es pos) (tLst t):=by
  intro pins s σ H Q I hq
  refine wpAny_List_spliced (thn (h pos pins s σ H _ I hq) fun us s1 ⟨xs,H1,I1,r,z,q⟩=>⟨by rw [← r.length]; exact z,?_⟩)
  have hf:H1 s1.heap.objs.size=none:=I1.hok.fresh (Nat.le_refl _)
  refine ⟨.ref s1.heap.objs.size,upd H1 s1.heap.objs.size (.lst xs),I1.laid (t':=s1.toks) (fun b u e=>Heap.get?_push_of_some _ e) (Nat.le_refl _) ?_,rfl,q _ hf⟩
  exact ⟨z,us,0,r,Heap.get?_push_size _ rfl⟩
end
abbrev Sp:=List V→Hp→VK→XK→Prop
abbrev CXT:=List Env→Hp→Shared→XK→Value→Shared→Prop
structure Env0 (P:Program) (w:World) (K:PySem.W.Frag) (mg:Str→Option Value) (base:Heap) (A:Around) (outer:List Env) (s:Shared) (H:Hp):Prop where
  frames:A.frames=some outer
  mod:Mod K mg base
  bs:∀ b o,base.get? b=some o→s.heap.get? b=some o∧H b=none
  bsz:base.objs.size≤s.heap.objs.size
  funs:s.heap.FunFrames base outer
  frf:∀ b∈frs outer,H b=none
  hok:HOk P w H s.heap
  bare:AllBare s.gens
def CE (outer:List Env) (P:Program) (w:World) (H:Hp) (s:Shared) (Q:VK) (u:Value) (s':Shared):Prop :=
  ∃ v H',s'.os=s.os∧AllBare s'.gens∧Un (frs outer) [] H H' s.heap s'.heap∧HOk P w H' s'.heap∧RelV v u∧Q v H'
def CR (CX:CXT) (outer:List Env) (P:Program) (w:World) (H:Hp) (s:Shared) (Q:VK) (E:XK) (r:Result) (s':Shared):Prop :=
  match r with
  | .ok (.ret u)=>CE outer P w H s Q u s'
  | .ok _=>False
  | .error e=>CX outer H s E e s'
structure FnOk (P:Program) (w:World) (K:PySem.W.Frag) (mg:Str→Option Value) (base:Heap) (CX:CXT) (k:Nat) (f:Addr) (fd:FuncData) (ps:List Str) (sp:Sp):Prop where
  len:∀ vs H Q E,sp vs H Q E→vs.length=ps.length
  run:∀ (A:Around) (outer:List Env) (s:Shared) (H:Hp) (args:Args) (us:List Value) (vs:List V) (Q:VK) (E:XK),Room k A→Env0 P w K mg base A outer s H→BindsTo s fd args (ps.zip us)→Vals vs us→sp vs H Q E →
    codeAny (model P w) A (.call (.ref f) args) (CR CX outer P w H s Q E) s
theorem FnOk.imp {P:Program} {w:World} {K:PySem.W.Frag} {mg:Str→Option Value} {base:Heap} {CX:CXT} {k:Nat} {f:Addr} {fd:FuncData} {ps:List Str} {sp sp':Sp} (F:FnOk P w K mg base CX k f fd ps sp)
    (h:∀ vs H Q E,sp' vs H Q E→sp vs H Q E):FnOk P w K mg base CX k f fd ps sp' :=
  ⟨fun vs H Q E q=>F.len vs H Q E (h _ _ _ _ q),fun A outer s H args us vs Q E hr he hb hv hs=>F.run A outer s H args us vs Q E hr he hb hv (h _ _ _ _ hs)⟩
theorem Env0.make {P:Program} {w:World} {K:PySem.W.Frag} {mg:Str→Option Value} {base:Heap} {A:Around} {outer:List Env} {s:Shared} {H:Hp} (e:Env0 P w K mg base A outer s H) (C:Addr) (us:List Value) (kw:List (Str × Value)) :
    Env0 P w K mg base (A.under (.builtin "type.__call__" ⟨.ref C :: us,kw⟩)) outer s H:=⟨by first | exact e.frames | (simpa [Around.under,Code.envs,Code.isFrame,pushEnvs] using e.frames),e.mod,e.bs,e.bsz,e.funs,e.frf,e.hok,e.bare⟩
section
variable {X : Cx} {pins : List (Addr × Obj)} {σ : St} {H : Hp} {s s' : Shared}
theorem Inv.env0 (I:Inv X pins σ H s):Env0 X.prog X.w X.K X.mg X.base X.A X.stack s H :=
  ⟨I.ok.frames,I.ok.mod,I.bs,Nat.le_trans I.ok.bsz I.sz,I.stack,I.stkFree,I.hok,I.bare⟩
theorem Inv.after {Q:VK} {u:Value} (I:Inv X pins σ H s) (h:CE X.stack X.prog X.w H s Q u s'):EP X pins σ Q u s':=by
  obtain ⟨v,H',os,bare,un,hok,r,q⟩:=h
  obtain ⟨hh,g,d,t,os'⟩:=s'
  obtain rfl:os'=s.os:=os
  exact ⟨v,H',I.call (h':=hh) (g':=g) (d':=d) (t':=t) (ch:=[]) un hok bare (fun b z=>absurd z (by simp)),r,q⟩
end
def tCall (sp:Sp) (dvs:List V) (E:XK) (t:TA):TE:=fun σ H Q=>t σ H fun vs H1=>sp (vs ++ dvs) H1 Q E
def tMake (C:Addr) (sp:Sp) (dvs:List V) (E:XK) (t:TA):TE:=fun σ H Q=>t σ H fun vs H1=>∀ x dx,H1 x=none→H1 dx=none→dx≠x →
  sp (.ref x :: (vs ++ dvs)) (upd (upd H1 dx (.own x)) x (.ins C dx [])) (fun v H2=>v=.non∧Q (.ref x) H2) E
def Binds (K:PySem.W.Frag) (fd:FuncData) (ps:List Str) (ds:List Value):Prop :=
  ∀ (s:Shared) (us:List Value),K.In s.heap→(us ++ ds).length=ps.length→BindsTo s fd ⟨us,[]⟩ (ps.zip (us ++ ds))
theorem Binds.all {K:PySem.W.Frag} {fd:FuncData} {ps:List Str} (h:∀ us:List Value,us.length=ps.length→bindArgs fd ⟨us,[]⟩=pure (ps.zip us)):Binds K fd ps []:=fun s us _ hl=>by
  rw [List.append_nil] at hl ⊢
  exact .of_eq (h us hl)
def Passes (CX:CXT) (X:Cx) (E:XK):Prop:=∀ (pins:List (Addr × Obj)) (σ:St) (H:Hp) (s:Shared) (e:Value) (s':Shared),Inv X pins σ H s→CX X.stack H s E e s'→X.xe e s'
section
variable {X : Cx} {CX : CXT} {k : Nat} {f C : Addr} {fd : FuncData} {ps : List Str} {sp : Sp} {dvs : List V} {ds : List Value} {E : XK} {x m : Str} {p pos apos : Pos} {e o : Expr} {es : List Expr} {ta : TE} {t : TA}
theorem run_fn {pins:List (Addr × Obj)} {σ:St} {H:Hp} {s:Shared} {Q:VK} {us:List Value} {vs:List V} (F:FnOk X.prog X.w X.K X.mg X.base CX k f fd ps sp) (hr:Room k X.A) (hb:Binds X.K fd ps ds) (hd:Vals dvs ds) (hx:Passes CX X E)
    (I:Inv X pins σ H s) (r:Vals vs us) (h:sp (vs ++ dvs) H Q E):wpAny (model X.prog X.w) X.A (call (.ref f) us) (EP X pins σ Q) X.xe s:=by
  have r2:Vals (vs ++ dvs) (us ++ ds):=r.append hd
  have hl:(us ++ ds).length=ps.length:=by rw [← r2.length]; exact F.len _ _ _ _ h
  refine wpAny_call (codeAny_mono (F.run X.A X.stack s H ⟨us,[]⟩ (us ++ ds) (vs ++ dvs) Q E hr I.env0 (hb s us I.kIn hl) r2 h) fun r s' hq=>?_)
  cases r with
  | error e=>exact hx pins σ H s e s' I hq
  | ok fl =>
    cases fl with
    | ret u=>exact I.after hq
    | next=>exact False.elim hq
    | brk=>exact False.elim hq
    | cont=>exact False.elim hq
theorem pe_call (F:FnOk X.prog X.w X.K X.mg X.base CX k f fd ps sp) (hr:Room k X.A) (hg:Gl X x) (hm:X.mg x=some (.ref f)) (hk:PySem.W.keepIn X.K (.ref f)=true) (hb:Binds X.K fd ps ds) (hd:Vals dvs ds) (hx:Passes CX X E)
    (ha:PA X (e :: es) t) (hdb:(x == ("__debug__":Str))=false:=by decide) (he:starEach (e :: es) X.env=(false,eval e X.env) :: starEach es X.env:=by rfl) (hpl:(backTo pos (starEach es X.env)).any (·.1)=false:=by rfl) :
    PE X (.Call (.Name x p) (e :: es) [] pos) (tCall sp dvs E t):=by
  intro pins s σ H Q I h
  refine wpAny_Call_Name_kw (ld_glob I hg hm ?_ hdb)
  refine PySem.W.callWith_K (h₀:=X.base) I.ok.mod.kin hk (thn (ha pos pins s σ H _ I h) fun us s1 ⟨vs,H1,I1,r,q⟩=>⟨I1.kIn,?_⟩) he hpl
  exact run_fn F hr hb hd hx I1 r q
structure Mk (K:PySem.W.Frag) (C f:Addr):Prop where
  makes:PySem.W.makesIn K C=true
  init:PySem.W.findIn K (.ref C) "__init__"=some (some (.ref f))
  fn:PySem.W.isFn K (.ref f)=true
  kp:PySem.W.keepIn K (.ref C)=true
theorem run_make {pins:List (Addr × Obj)} {σ:St} {H:Hp} {s:Shared} {Q:VK} {us:List Value} {vs:List V} (M:Mk X.K C f) (F:FnOk X.prog X.w X.K X.mg X.base CX k f fd ps sp) (hr:Room (k + 1) X.A) (hb:Binds X.K fd ps ds) (hd:Vals dvs ds)
    (hx:Passes CX X E) (I:Inv X pins σ H s) (r:Vals vs us)
    (h:∀ x dx,H x=none→H dx=none→dx≠x→sp (.ref x :: (vs ++ dvs)) (upd (upd H dx (.own x)) x (.ins C dx [])) (fun v H2=>v=.non∧Q (.ref x) H2) E) :
    wpAny (model X.prog X.w) X.A (call (.ref C) us) (EP X pins σ Q) X.xe s:=by
  have hq:=h (s.heap.objs.size + 1) s.heap.objs.size (I.hok.fresh (Nat.le_succ _)) (I.hok.fresh (Nat.le_refl _)) (Nat.ne_of_lt (Nat.lt_succ_self _))
  have I2:=Inv.made (C:=C) I
  have r2:Vals (V.ref (s.heap.objs.size + 1) :: (vs ++ dvs)) (Value.ref (s.heap.objs.size + 1) :: (us ++ ds)):=.cons rfl (r.append hd)
  have hl:(Value.ref (s.heap.objs.size + 1) :: us ++ ds).length=ps.length:=by
    have e:=r2.length
    rw [F.len _ _ _ _ hq] at e
    exact e.symm
  refine wpAny_call (make_map (f:=f) I.kIn M.makes M.init (beq_iff_eq.mp M.fn) (codeAny_mono (F.run _ X.stack _ _ ⟨Value.ref (s.heap.objs.size + 1) :: us,[]⟩ (Value.ref (s.heap.objs.size + 1) :: (us ++ ds)) _ _ E (hr.make C us [])
    (I2.env0.make C us []) (hb _ (Value.ref (s.heap.objs.size + 1) :: us) I2.kIn hl) r2 hq) fun r s' hq'=>?_))
  cases r with
  | error e=>exact hx pins σ _ _ e s' I2 hq'
  | ok fl =>
    cases fl with
    | ret u =>
      obtain ⟨v,H',I3,rv,ev,q3⟩:=I2.after hq'
      subst ev
      exact ⟨rv,⟨V.ref (s.heap.objs.size + 1),H',I3,rfl,q3⟩⟩
    | next=>exact False.elim hq'
    | brk=>exact False.elim hq'
    | cont=>exact False.elim hq'
theorem pe_make (M:Mk X.K C f) (F:FnOk X.prog X.w X.K X.mg X.base CX k f fd ps sp) (hr:Room (k + 1) X.A) (hg:Gl X x) (hm:X.mg x=some (.ref C)) (hb:Binds X.K fd ps ds) (hd:Vals dvs ds) (hx:Passes CX X E)
    (ha:PA X (e :: es) t) (hdb:(x == ("__debug__":Str))=false:=by decide) (he:starEach (e :: es) X.env=(false,eval e X.env) :: starEach es X.env:=by rfl) (hpl:(backTo pos (starEach es X.env)).any (·.1)=false:=by rfl) :
    PE X (.Call (.Name x p) (e :: es) [] pos) (tMake C sp dvs E t):=by
  intro pins s σ H Q I h
  refine wpAny_Call_Name_kw (ld_glob I hg hm ?_ hdb)
  refine PySem.W.callWith_K (h₀:=X.base) I.ok.mod.kin M.kp (thn (ha pos pins s σ H _ I h) fun us s1 ⟨vs,H1,I1,r,q⟩=>⟨I1.kIn,?_⟩) he hpl
  exact run_make M F hr hb hd hx I1 r q
end
section
variable {X : Cx} {CX : CXT} {k : Nat} {f C : Addr} {fd : FuncData} {ps ks : List Str} {sp : Sp} {E : XK} {x m : Str} {p pos apos kpos : Pos} {e o : Expr} {es : List Expr} {kws : List Keyword} {te ta : TE} {t tk : TA} {nm : Option Str}
structure KBinds (K:PySem.W.Frag) (fd:FuncData) (ps ks:List Str) (g:List Value→List Value→List Value) (gV:List V→List V→List V):Prop where
  to:∀ (s:Shared) (us ws:List Value),K.In s.heap→(g us ws).length=ps.length→BindsTo s fd ⟨us,ks.zip ws⟩ (ps.zip (g us ws))
  rel:∀ {vs:List V} {us:List Value} {zs:List V} {ws:List Value},Vals vs us→Vals zs ws→Vals (gV vs zs) (g us ws)
variable {g : List Value → List Value → List Value} {gV : List V → List V → List V}
end
structure FnScope (N P:List Str) (sc:Scope):Prop where
  kind:sc.kind=.function
  co:sc.isCoroutine=false
  gen:sc.isGenerator=false
  nd:N.Nodup
  pre:N.take P.length=P
  par:∀ x∈P,sc.names.lookup x=some .local∨sc.names.lookup x=some .cell
  nofree:∀ y∈sc.names,y.2≠.free
theorem bindL_out {kindOf:Str→Option NameKind} {x:Str}:∀ {binds:List (Str × Value)} {m:Str→Option Value},(∀ v,(x,v) ∉ binds)→bindL kindOf binds m x=m x
  | [],_,_=>rfl
  | (n,v) :: r,m,h=>by
    unfold bindL
    rw [bindL_out fun w hw=>h w (List.mem_cons_of_mem _ hw)]
    split
    · have:x≠n:=by rintro rfl; exact h v List.mem_cons_self
      simp [this]
    · rfl
theorem bindC_out {kindOf:Str→Option NameKind} {x:Str}:∀ {binds:List (Str × Value)} {m:Str→Option Value},(∀ v,(x,v) ∉ binds)→bindC kindOf binds m x=m x
  | [],_,_=>rfl
  | (n,v) :: r,m,h=>by
    unfold bindC
    rw [bindC_out fun w hw=>h w (List.mem_cons_of_mem _ hw)]
    split
    · rfl
    · have:x≠n:=by rintro rfl; exact h v List.mem_cons_self
      simp [this]
theorem bindL_get {kindOf:Str→Option NameKind} {x:Str} {v:Value}:∀ {P:List Str} {vs:List Value} {i:Nat} {m:Str→Option Value},P.Nodup→P[i]?=some x→vs[i]?=some v→kindOf x=some .local →
    bindL kindOf (P.zip vs) m x=some v
  | [],_,_,_,_,h,_,_=>by simp at h
  | _ :: _,[],_,_,_,_,h,_=>by simp at h
  | p :: P,w :: vs,0,m,nd,h1,h2,hk=>by
    simp at h1 h2; subst h1; subst h2
    show bindL kindOf ((p,w) :: P.zip vs) m p=_
    unfold bindL
    rw [bindL_out fun v hv=>(List.nodup_cons.mp nd).1 (List.of_mem_zip hv).1,if_pos hk]
    simp
  | p :: P,w :: vs,i + 1,m,nd,h1,h2,hk=>by
    show bindL kindOf ((p,w) :: P.zip vs) m x=_
    unfold bindL
    exact bindL_get (i:=i) (List.nodup_cons.mp nd).2 (by simpa using h1) (by simpa using h2) hk
theorem bindC_get {kindOf:Str→Option NameKind} {x:Str} {v:Value}:∀ {P:List Str} {vs:List Value} {i:Nat} {m:Str→Option Value},P.Nodup→P[i]?=some x→vs[i]?=some v→kindOf x≠some .local →
    bindC kindOf (P.zip vs) m x=some v
  | [],_,_,_,_,h,_,_=>by simp at h
  | _ :: _,[],_,_,_,_,h,_=>by simp at h
  | p :: P,w :: vs,0,m,nd,h1,h2,hk=>by
    simp at h1 h2; subst h1; subst h2
    show bindC kindOf ((p,w) :: P.zip vs) m p=_
    unfold bindC
    rw [bindC_out fun v hv=>(List.nodup_cons.mp nd).1 (List.of_mem_zip hv).1,if_neg hk]
    simp
  | p :: P,w :: vs,i + 1,m,nd,h1,h2,hk=>by
    show bindC kindOf ((p,w) :: P.zip vs) m x=_
    unfold bindC
    exact bindC_get (i:=i) (List.nodup_cons.mp nd).2 (by simpa using h1) (by simpa using h2) hk
def start (N:List Str) (vs:List V):St:=vs.map some ++ List.replicate (N.length - vs.length) none
def cxOf (CX:CXT) (P:Program) (w:World) (K:PySem.W.Frag) (mg:Str→Option Value) (base:Heap) (N:List Str) (qual:Str) (scope:Scope) (f:Addr) (cd:Value) (A:Around) (outer:List Env) (s:Shared) (H:Hp) (E:XK):Cx where
  prog:=P
  w:=w
  K:=K
  mg:=mg
  base:=base
  A:=A.deeper (envOfC qual scope s.heap.objs.size f cd)
  N:=N
  s₀:=s
  H₀:=H
  env:=envOfC qual scope s.heap.objs.size f cd
  outer:=outer
  stack:=envOfC qual scope s.heap.objs.size f cd :: outer
  ex:=[]
  calm:=true
  fn:=fun _=>true
  pn:=[]
  kn:=fun _=>Option.none
  xe:=fun e s'=>wpAny (model P w) (A.deeper (envOfC qual scope s.heap.objs.size f cd)) (leaving (envOfC qual scope s.heap.objs.size f cd) e) (fun _ s''=>CX outer H s E e s'') (fun e' s''=>CX outer H s E e' s'') s'
theorem cell_has {sc:Scope} {n:Nat} {x:Str} (h:sc.names.lookup x=some .cell):∃ c,(cellsFrom n sc.names []).lookup x=some c:=by
  have q:=PySem.W.cellsFrom_some sc.names n [] (.inl h)
  exact Option.isSome_iff_exists.mp q
theorem inv_start {CX:CXT} {P:Program} {w:World} {K:PySem.W.Frag} {mg:Str→Option Value} {base:Heap} {N ps:List Str} {qual:Str} {scope:Scope} {f:Addr} {cd:Value} {A:Around} {outer:List Env} {s s1:Shared} {H:Hp} {E:XK} {us:List Value} {vs:List V}
    (S:FnScope N ps scope) (hd:A.handled=none) (e0:Env0 P w K mg base A outer s H) (hl:vs.length=ps.length) (r:Vals vs us)
    (x:InCallC s s.heap.objs.size (bindL (envOfC qual scope s.heap.objs.size f cd).kindOf (ps.zip us) fun _=>none) (cellsFrom (s.heap.objs.size + 1) scope.names []) (bindC (envOfC qual scope s.heap.objs.size f cd).kindOf (ps.zip us) fun _=>none) s1) :
    Inv (cxOf CX P w K mg base N qual scope f cd A outer s H E) [] (start N vs) H s1:=by
  have hpl:ps.length≤N.length:=by have:=congrArg List.length S.pre; rw [List.length_take] at this; omega
  obtain ⟨h1,tk,rfl,hk⟩:=x.done
  have noA:∀ b:Addr,b ∉ (cxOf CX P w K mg base N qual scope f cd A outer s H E).ex:=fun b z=>absurd (show b∈([]:List Addr) from z) (by simp)
  refine ⟨⟨e0.mod,S.kind,rfl,rfl,Nat.le_refl _,fun y z c h1 h2=>?_,fun y hy=>?_,fun y c _ h=>?_,fun _=>hd,Around.frames_deeper e0.frames,.inr ⟨rfl,rfl⟩,fun b z=>absurd z (noA b),e0.bs,e0.bsz,fun b _ _=>noA b,fun b z=>absurd z (noA b),e0.funs,e0.frf⟩,
    rfl,e0.bare,Un.kept hk,⟨_,x.toInCall.ns,fun i y v h1 h2 h3=>?_⟩,fun y c h=>⟨_,x.cell y c h⟩,e0.hok.fresh (Nat.le_refl _),fun y c h=>?_,fun p hp=>absurd (show p∈([]:List (Addr × Obj)) from hp) (by simp),e0.hok.kept hk,?_,fun _ _ z=>nomatch z⟩
  · exact name_of_addr x.apart (PySem.mem_of_lookup h1) (PySem.mem_of_lookup h2)
  · have hy:scope.names.lookup y=some .cell∨scope.names.lookup y=some .free:=hy
    rcases hy with hy | hy
    · exact cell_has hy
    · exact absurd rfl (S.nofree _ (PySem.mem_of_lookup hy))
  · exact Nat.le_of_lt (x.above y c (PySem.mem_of_lookup h))
  · have hi:i < vs.length:=by
      unfold start at h2
      by_cases hi:i < vs.length
      · exact hi
      · rw [List.getElem?_append_right (by simpa using hi)] at h2
        rw [List.getElem?_replicate] at h2
        split at h2 <;> cases h2
    have ha:vs[i]?=some v:=by
      unfold start at h2
      rw [List.getElem?_append_left (by simpa using hi),List.getElem?_map] at h2
      cases e:vs[i]? with
      | none=>rw [e] at h2; cases h2
      | some a=>rw [e] at h2; cases h2; rfl
    obtain ⟨u,hu,rv⟩:=r.get ha
    have hp:ps[i]?=some y:=by
      rw [← S.pre,List.getElem?_take_of_lt (by omega)]; exact h1
    have ndP:ps.Nodup:=by rw [← S.pre]; exact S.nd.sublist (List.take_sublist _ _)
    refine ⟨u,rv,?_⟩
    rcases S.par y (List.mem_of_getElem? hp) with k | k
    · exact .inl ⟨k,bindL_get ndP hp hu k⟩
    · obtain ⟨c,e⟩:=cell_has (n:=s.heap.objs.size + 1) k
      refine .inr ⟨.inl k,c,e,?_⟩
      have q:=x.cell y c e
      rw [bindC_get ndP hp hu (by show scope.names.lookup y≠_; rw [k]; decide)] at q
      exact q
  · exact e0.hok.fresh (Nat.le_of_lt (x.above y c (PySem.mem_of_lookup h)))
  · unfold start
    show _=N.length
    rw [List.length_append,List.length_map,List.length_replicate]
    omega
theorem fn_of {CX:CXT} {P:Program} {w:World} {K:PySem.W.Frag} {mg:Str→Option Value} {base:Heap} {k:Nat} {f:Addr} {name qual:Str} {params:Arguments} {body:List Stmt} {scope:Scope} {dV kV doc pm cdv ct oc:Value} {an od:Option Addr}
    {osl:Array (Option Value)} {N ps:List Str} {sp:Sp} (lk:K.lookup f=some ⟨oc,od,.func (PySem.W.fnOf name qual params body scope dV kV doc pm an cdv ct),osl⟩) (hcd:PySem.W.codeIn K cdv qual=true) (S:FnScope N ps scope)
    (len:∀ vs H Q E,sp vs H Q E→vs.length=ps.length)
    (hbody:∀ (A:Around) (outer:List Env) (s:Shared) (H:Hp) (vs:List V) (Q:VK) (E:XK),Room k (A.deeper (envOfC qual scope s.heap.objs.size f cdv))→sp vs H Q E →
      ∃ t,PSs (cxOf CX P w K mg base N qual scope f cdv A outer s H E) body t∧t { nx:=fun _ H'=>Q .non H',rt:=Q } (start N vs) H) :
    FnOk P w K mg base CX (k + 1) f (PySem.W.fnOf name qual params body scope dV kV doc pm an cdv ct) ps sp:=by
  refine ⟨len,fun A outer s H args us vs Q E hr e0 hb r hsp=>?_⟩
  have hl:=len _ _ _ _ hsp
  have KX:K.In s.heap:=e0.mod.kin.keeps fun b o e=>(e0.bs b o e).1
  have lim:s.heap.NoLimit:=e0.mod.nolimit.keeps fun b o e=>(e0.bs b o e).1
  have hkind:∀ y∈ps.zip us,scope.names.lookup y.1=some .local∨(scope.names.lookup y.1=some .cell∧((cellsFrom (s.heap.objs.size + 1) scope.names []).lookup y.1).isSome=true):=fun ⟨n,v⟩ hy=>by
    rcases S.par n (List.of_mem_zip hy).1 with q | q
    · exact .inl q
    · exact .inr ⟨q,PySem.W.cellsFrom_some _ _ _ (.inl q)⟩
  refine codeAny_call_function hr.depth (KX _ _ lk) rfl S.co S.gen rfl (PySem.W.codeRec_of KX hcd) (hb _ _ _ _ ?_)
  refine wpAny_newFunctionEnv_cells S.kind hkind fun env he s1 x=>?_
  subst he
  refine ⟨lim.keeps x.toInCall.keep,codeAny_func ?_⟩
  obtain ⟨t,ht,hq⟩:=hbody A outer s H vs Q E (hr.deeper _) hsp
  have I:Inv (cxOf CX P w K mg base N qual scope f cdv A outer s H E) [] (start N vs) H s1:=inv_start S hr.hd e0 hl r x
  refine wpAny_mono (ht [] s1 (start N vs) H _ I hq) (fun fl s' hs=>?_) fun e s' hs=>hs
  have fin:∀ {σ':St} {H':Hp} {v:V} {u:Value},Inv (cxOf CX P w K mg base N qual scope f cdv A outer s H E) [] σ' H' s'→RelV v u→Q v H'→CE outer P w H s Q u s' :=
    fun {σ' H' v u} J rv q=>⟨v,H',J.os,J.bare,J.base,J.hok,rv,q⟩
  cases fl with
  | ret u =>
    obtain ⟨v,σ',H',J,rv,q⟩:=hs
    exact fin J rv q
  | next =>
    obtain ⟨σ',H',J,q⟩:=hs
    exact fin (v:=V.non) (u:=Value.none) J rfl q
  | brk =>
    obtain ⟨_,_,_,q⟩:=hs
    exact False.elim q
  | cont =>
    obtain ⟨_,_,_,q⟩:=hs
    exact False.elim q
end L2
namespace L2
open PySem PySem.Spec PyProof.Rows
section
variable {X : Cx} {x : Str} {p pos : Pos} {e : Expr} {es : List Expr} {t : TA} {id T : String} {r : List V → Hp → VK → Prop}
def tCB (r:List V→Hp→VK→Prop) (t:TA):TE:=fun σ H Q=>t σ H fun vs H1=>r vs H1 Q
theorem pe_callB (hc:CallR X (.builtin id) r) (hg:Gl X x) (hm:X.mg x=none) (hv:bootBuiltins x=some (.builtin id)) (ha:PA X (e :: es) t) (hn:x≠"__name__":=by decide) (hdb:(x == ("__debug__":Str))=false:=by decide)
    (he:starEach (e :: es) X.env=(false,eval e X.env) :: starEach es X.env:=by rfl) (hpl:(backTo pos (starEach es X.env)).any (·.1)=false:=by rfl):PE X (.Call (.Name x p) (e :: es) [] pos) (tCB r t):=by
  intro pins s σ H Q I h
  refine wpAny_Call_Name_kw (ld_blt I hg hm hv ?_ hn hdb)
  exact PyProof.Rows.callWith_builtin1 (thn (ha pos pins s σ H _ I h) fun us s1 ⟨vs,H1,I1,r1,q1⟩=>hc pins s1 σ H1 vs us Q I1 r1 q1) he hpl
theorem pe_callTy (hc:CallR X (.type T) r) (hg:Gl X x) (hm:X.mg x=none) (hv:bootBuiltins x=some (.type T)) (ha:PA X (e :: es) t) (hn:x≠"__name__":=by decide) (hdb:(x == ("__debug__":Str))=false:=by decide)
    (he:starEach (e :: es) X.env=(false,eval e X.env) :: starEach es X.env:=by rfl) (hpl:(backTo pos (starEach es X.env)).any (·.1)=false:=by rfl):PE X (.Call (.Name x p) (e :: es) [] pos) (tCB r t):=by
  intro pins s σ H Q I h
  refine wpAny_Call_Name_kw (ld_blt I hg hm hv ?_ hn hdb)
  exact PyProof.Rows.callWith_type1 (thn (ha pos pins s σ H _ I h) fun us s1 ⟨vs,H1,I1,r1,q1⟩=>hc pins s1 σ H1 vs us Q I1 r1 q1) he hpl
end
end L2
namespace HT
open PySem PyProof.Rows
section
open PySem.SeqAt
open PySem.AutoSeq1 (wpAny_loadPart')
open PySem.MeetsSeq PySem.MeetsSeq2 PySem.MeetsSeq3
end
section
variable {prog : Program} {w : World} {A : Around} {E : Value → Shared → Prop} {s : Shared}
end
end HT
namespace L2
open PySem PySem.Spec PyProof.Rows
abbrev TO:=St→Hp→(Option Int→Hp→Prop)→Prop
def PO (X:Cx) (e:Option Expr) (t:TO):Prop :=
  ∀ (pins:List (Addr × Obj)) (s:Shared) (σ:St) (H:Hp) (Q:Option Int→Hp→Prop),Inv X pins σ H s→t σ H Q →
    wpAny (model X.prog X.w) X.A (evalPart e X.env) (fun u s'=>∃ o H',Inv X pins σ H' s'∧IsPart u o∧Q o H') X.xe s
section
variable {X : Cx} {e : Expr} {te : TE} {lo hi : Option Expr} {tl th : TO} {pos p2 : Pos}
end
end L2
namespace L2
open PySem PySem.Spec PyProof.Rows
def ixN (n:Nat) (i:Int):Option Nat:=if 0≤i then (if i < n then some i.toNat else none) else if -(n:Int)≤i then some (i + n).toNat else none
def atI {α:Type} (xs:List α) (i:Int):Option α:=(ixN xs.length i).bind fun j=>xs[j]?
theorem ixN_seq {n:Nat} {i:Int} {j:Nat} (h:ixN n i=some j):seqIndex? i n=some j∧j < n∧-(n:Int)≤i∧i < n:=by
  unfold ixN at h
  by_cases h0:0≤i
  · rw [if_pos h0] at h
    by_cases h1:i < n
    · rw [if_pos h1] at h
      have e:i.toNat=j:=Option.some.inj h
      exact ⟨by rw [seqIndex_of h0 h1,e],by omega,by omega,h1⟩
    · rw [if_neg h1] at h; cases h
  · rw [if_neg h0] at h
    by_cases h1:-(n:Int)≤i
    · rw [if_pos h1] at h
      have e:(i + n).toNat=j:=Option.some.inj h
      exact ⟨by rw [seqIndex_neg (by omega) h1,e],by omega,h1,by omega⟩
    · rw [if_neg h1] at h; cases h
theorem atI_get {α:Type} {xs:List α} {i:Int} {v:α} (h:atI xs i=some v):∃ j,seqIndex? i xs.length=some j∧xs[j]?=some v∧j < xs.length∧-(xs.length:Int)≤i∧i < xs.length:=by
  unfold atI at h
  cases e:ixN xs.length i with
  | none=>rw [e] at h; cases h
  | some j =>
    rw [e] at h
    obtain ⟨h1,h2,h3,h4⟩:=ixN_seq e
    exact ⟨j,h1,h,h2,h3,h4⟩
theorem atI_nat {α:Type} {xs:List α} {j:Nat} {v:α} (h:xs[j]?=some v):atI xs (j:Int)=some v:=by
  have hj:j < xs.length:=(List.getElem?_eq_some_iff.mp h).1
  have e:ixN xs.length (j:Int)=some j:=by
    unfold ixN
    rw [if_pos (by omega),if_pos (by omega)]; simp
  unfold atI; rw [e]; exact h
def PlainIx (b:Expr):Prop:=∀ o i,subscripted b false o i=operate [o,i] (getItem o i)
def IxR (X:Cx) (r:R2):Prop :=
  ∀ (value slice:Expr) (pins:List (Addr × Obj)) (s:Shared) (σ:St) (H:Hp) (x y:V) (v u:Value) (Q:VK),Inv X pins σ H s→RelV x v→RelV y u→r x y H Q →
    subscripted slice false v u=operate [v,u] (getItem v u)→wpAny (model X.prog X.w) X.A (subscriptTail value slice v u) (EP X pins σ Q) X.xe s
def MtR (X:Cx) (id:String) (r:V→List V→Hp→VK→Prop):Prop :=
  ∀ (pins:List (Addr × Obj)) (s:Shared) (σ:St) (H:Hp) (x:V) (xs:List V) (v:Value) (us:List Value) (Q:VK),Inv X pins σ H s→RelV x v→Vals xs us→r x xs H Q →
    wpAny (model X.prog X.w) X.A (call (.builtin id) (v :: us)) (EP X pins σ Q) X.xe s
section
variable {X : Cx} {a b : Expr} {ta tb : TE} {pos : Pos}
theorem pe_ix {r:R2} (hr:IxR X r) (ha:PE X a ta) (hb:PE X b tb) (hs:PlainIx b):PE X (.Subscript a b pos) (tOp r ta tb):=by
  intro pins s σ H Q I h
  exact Subscript_ (binT ha hb I h fun v u s2 x y H2 I2 rx ry q=>hr a b pins s2 σ H2 x y v u Q I2 rx ry q (hs _ _))
def rIxL (K:PySem.W.Frag):R2:=fun x y H Q=>∃ p xs i v,x=.ref p∧y=.int i∧SqL K H p xs∧atI xs i=some v∧Q v H
def rIxT (K:PySem.W.Frag):R2:=fun x y H Q=>∃ p xs i v,x=.ref p∧y=.int i∧SqT K H p xs∧atI xs i=some v∧Q v H
theorem ix_list:IxR X (rIxL X.K):=by
  intro value slice pins s σ H x y v u Q I rx ry h hs
  obtain ⟨p,xs,i,z,rfl,rfl,hq,he,q⟩:=h
  cases rx
  obtain ⟨t,rfl⟩:=ry
  obtain ⟨its,r,pl,hz⟩:=I.list hq
  obtain ⟨j,h1,h2,h3,h4,h5⟩:=atI_get he
  obtain ⟨w,ew,rw'⟩:=r.get h2
  have hl:=r.length
  have hn:=line63
  have fin:EP X pins σ Q w s:=⟨z,H,I,rw',q⟩
  by_cases h0:0≤i
  · have hj:i.toNat=j:=by
      rw [seqIndex_of h0 h5] at h1
      exact Option.some.inj h1
    exact item_listR pl.isList h0 (by omega) (by rw [hj]; simpa using ew) fin hs
  · have hj:(i + (its.toArray.size:Int)).toNat=j:=by
      rw [seqIndex_neg (by omega) h4] at h1
      rw [List.size_toArray,← hl]
      exact Option.some.inj h1
    exact subscriptTail_builtinR (x:=w) pl.isList.typeIs slot_list_getitem.lookup
      (wpAny_getItem_list_neg (Q:=fun r s'=>r=w∧EP X pins σ Q r s') pl.isList (by omega) (by rw [List.size_toArray] <;> omega) (by omega) (by rw [hj]; simpa using ew) ⟨rfl,fin⟩) hs
theorem ix_tup:IxR X (rIxT X.K):=by
  intro value slice pins s σ H x y v u Q I rx ry h hs
  obtain ⟨p,xs,i,z,rfl,rfl,hq,he,q⟩:=h
  cases rx
  obtain ⟨t,rfl⟩:=ry
  obtain ⟨its,r,pl,hz⟩:=I.tuple hq
  obtain ⟨j,h1,h2,h3,h4,h5⟩:=atI_get he
  obtain ⟨w,ew,rw'⟩:=r.get h2
  have hl:=r.length
  have hn:=line63
  have fin:EP X pins σ Q w s:=⟨z,H,I,rw',q⟩
  exact subscriptTail_builtinR (x:=w) pl.typeIs slot_tuple_getitem.lookup
    (getItem_tuple (j:=j) (Q:=fun r s'=>r=w∧EP X pins σ Q r s') pl (by omega) (by omega) (by rw [List.size_toArray,← hl]; exact h1) (by simpa using ew) ⟨rfl,fin⟩) hs
theorem mapSeq_set (its:List Value) (n j:Nat) (u:Value):Obj.mapSeq (·.setIfInBounds j u) { cls:=.type "list",data:=.seq its.toArray n }={ cls:=.type "list",data:=.seq (its.set j u).toArray n }:=by
  simp [Obj.mapSeq]
theorem Inv.lst {pins:List (Addr × Obj)} {σ:St} {H:Hp} {s:Shared} {p:Addr} {xs:List V} (I:Inv X pins σ H s) (h:H p=some (.lst xs)) :
    ∃ (its:List Value) (n:Nat),Vals xs its∧s.heap.get? p=some { cls:=.type "list",data:=.seq its.toArray n }∧xs.length≤sizeLine:=by
  obtain ⟨z,its,n,r,e⟩:=I.hok p _ h
  exact ⟨its,n,r,e,z⟩
theorem Inv.lstUpd {pins:List (Addr × Obj)} {σ:St} {H:Hp} {s:Shared} {p:Addr} {xs ys:List V} {its its':List Value} {n n':Nat} {f:Obj→Obj} (I:Inv X pins σ H s) (h:H p=some (.lst xs))
    (ho:s.heap.get? p=some { cls:=.type "list",data:=.seq its.toArray n }) (hf:f { cls:=.type "list",data:=.seq its.toArray n }={ cls:=.type "list",data:=.seq its'.toArray n' }) (r:Vals ys its') (hz:ys.length≤sizeLine) (t:Nat) :
    Inv X pins σ (upd H p (.lst ys)) { s with heap:=s.heap.update p f,toks:=t }:=by
  have e:(s.heap.update p f).get? p=some { cls:=.type "list",data:=.seq its'.toArray n' }:=by
    rw [Heap.get?_update_self f ho (by rw [hf] <;> rfl),hf]
  refine I.write (x:=p) (e:=p) (by rw [h]; trivial) (.inl rfl) (fun b u hb q=>(Heap.get?_update_other _ _ (Ne.symm hb)).trans q) ⟨_,e⟩ ?_
  exact ⟨hz,its',n',r,e⟩
def rSetL:V→V→V→Hp→(Hp→Prop)→Prop:=fun o i v H Q=>∃ p xs k j,o=.ref p∧i=.int k∧H p=some (.lst xs)∧ixN xs.length k=some j∧Q (upd H p (.lst (xs.set j v)))
theorem set_list:PSet X rSetL:=by
  intro pins s σ H o i v ov iv u Q I ro ri rv h
  obtain ⟨p,xs,k,j,rfl,rfl,hp,hj,q⟩:=h
  cases ro
  obtain ⟨t,rfl⟩:=ri
  obtain ⟨its,n,r,ho,hz⟩:=I.lst hp
  obtain ⟨h1,h2,h3,h4⟩:=ixN_seq hj
  have hl:=r.length
  have hn:=line63
  have I':Inv X pins σ (upd H p (.lst (xs.set j v))) { s with heap:=s.heap.update p (Obj.mapSeq (·.setIfInBounds j u)) } :=
    I.lstUpd hp ho (mapSeq_set its n j u) (r.set rv j) (by rw [List.length_set]; exact hz) s.toks
  by_cases h0:0≤k
  · have hk:k.toNat=j:=by
      rw [seqIndex_of h0 h4] at h1
      exact Option.some.inj h1
    exact PySem.W.ki_setAt ho h0 (by omega) (by rw [List.size_toArray,← hl]; exact h4) (by rw [hk]; exact ⟨_,I',q⟩)
  · have hk:(k + (its.toArray.size:Int)).toNat=j:=by
      rw [seqIndex_neg (by omega) h3] at h1
      rw [List.size_toArray,← hl]
      exact Option.some.inj h1
    exact PySem.W.ki_setBack ho (by omega) (by rw [List.size_toArray,← hl]; exact h3) (by omega) (by rw [hk]; exact ⟨_,I',q⟩)
def flatV:V→Bool
  | .non=>true
  | .bl _=>true
  | .int _=>true
  | .str _=>true
  | _=>false
def eqV:V→V→Bool
  | .non,.non=>true
  | .bl a,.bl b=>a == b
  | .bl a,.int b=>(if a then 1 else 0) == b
  | .int a,.bl b=>a == (if b then 1 else 0)
  | .int a,.int b=>a == b
  | .str a,.str b=>a == b
  | _,_=>false
theorem eqAt_V {A:Around} {s:Shared} {y x:V} {u v:Value} (ry:RelV y u) (rx:RelV x v) (fy:flatV y=true) (fx:flatV x=true):SeqAt.EqAt A s u v (eqV y x):=by
  cases y with
  | non =>
    cases ry
    cases x with
    | non=>cases rx; exact SeqAt.EqAt.same _
    | bl b=>cases rx; exact SeqAt.EqAt.none_bool b
    | int b=>obtain ⟨t,rfl⟩:=rx; exact SeqAt.EqAt.none_int b t
    | str b=>obtain ⟨t,rfl⟩:=rx; exact SeqAt.EqAt.none_str b t
    | _=>exact absurd (show false=true from fx) Bool.false_ne_true
  | bl a =>
    cases ry
    cases x with
    | non=>cases rx; exact SeqAt.EqAt.bool_none a
    | bl b=>cases rx; exact SeqAt.EqAt.bool_bool a b
    | int b=>obtain ⟨t,rfl⟩:=rx; exact SeqAt.EqAt.bool_int a b t
    | str b=>obtain ⟨t,rfl⟩:=rx; exact SeqAt.EqAt.bool_str a b t
    | _=>exact absurd (show false=true from fx) Bool.false_ne_true
  | int a =>
    obtain ⟨t',rfl⟩:=ry
    cases x with
    | non=>cases rx; exact SeqAt.EqAt.int_none a t'
    | bl b=>cases rx; exact SeqAt.EqAt.int_bool a t' b
    | int b=>obtain ⟨t,rfl⟩:=rx; exact SeqAt.EqAt.int_int a t' b t
    | str b=>obtain ⟨t,rfl⟩:=rx; exact SeqAt.EqAt.int_str a t' b t
    | _=>exact absurd (show false=true from fx) Bool.false_ne_true
  | str a =>
    obtain ⟨t',rfl⟩:=ry
    cases x with
    | non=>cases rx; exact SeqAt.EqAt.str_none a t'
    | bl b=>cases rx; exact SeqAt.EqAt.str_bool a t' b
    | int b=>obtain ⟨t,rfl⟩:=rx; exact SeqAt.EqAt.str_int a t' b t
    | str b=>obtain ⟨t,rfl⟩:=rx; exact SeqAt.EqAt.str_str a t' b t
    | _=>exact absurd (show false=true from fx) Bool.false_ne_true
  | _=>exact absurd (show false=true from fy) Bool.false_ne_true
theorem call_len_seq:CallR X (.builtin "len") (fun xs H Q=>∃ p ys,xs=[.ref p]∧(SqL X.K H p ys∨SqT X.K H p ys)∧Q (.int ys.length) H):=by
  intro pins s σ H xs us Q I r h
  obtain ⟨p,ys,rfl,hq,q⟩:=h
  obtain ⟨u,rfl,rx⟩:=vals1 r
  cases rx
  have hn:=line63
  rcases hq with hq | hq
  · obtain ⟨its,r',pl,hz⟩:=I.list hq
    have hlen:=r'.length
    exact Calls.call_len_list pl.isList (by simp only [List.size_toArray] <;> omega) ⟨.int ys.length,H,I.tok _,⟨s.toks + 1,by rw [List.size_toArray,hlen]⟩,q⟩
  · obtain ⟨its,r',pl,hz⟩:=I.tuple hq
    have hlen:=r'.length
    exact len_tuple pl (by simp only [List.size_toArray] <;> omega) ⟨.int ys.length,H,I.tok _,⟨s.toks + 1,by rw [List.size_toArray,hlen]⟩,q⟩
theorem call_list_of:CallR X (.type "list") (fun xs H Q=>∃ p ys,xs=[.ref p]∧(SqL X.K H p ys∨SqT X.K H p ys)∧∀ l,H l=none→Q (.ref l) (upd H l (.lst ys))):=by
  intro pins s σ H xs us Q I r h
  obtain ⟨p,ys,rfl,hq,q⟩:=h
  obtain ⟨u,rfl,rx⟩:=vals1 r
  cases rx
  have fin:∀ (its:List Value),Vals ys its→ys.length≤sizeLine→∀ (h':Heap) (c':Nat),(∀ b o',s.heap.get? b=some o'→h'.get? b=some o') →
      h'.get? s.heap.objs.size=some { cls:=.type "list",dict:=none,data:=.seq its.toArray c',slots:=#[] }→EP X pins σ Q (.ref s.heap.objs.size) { s with heap:=h' }:=fun its r' hz h' c' kp e =>
    ⟨.ref s.heap.objs.size,_,I.laid (t':=s.toks) kp (Nat.le_refl _) (show ObjOk X.prog X.w _ h' _ (.lst ys) from ⟨hz,its,c',r',e⟩),rfl,q _ (I.hok.fresh (Nat.le_refl _))⟩
  rcases hq with hq | hq
  · obtain ⟨its,r',pl,hz⟩:=I.list hq
    have hlen:=r'.length
    obtain ⟨o,ho,hc,n,hd⟩:=pl.isList
    exact call_list_seq p (.inl rfl) ho hc hd (fun h' c' kp e=>fin its r' hz h' c' kp e) (by simp only [List.size_toArray] <;> omega)
  · obtain ⟨its,r',pl,hz⟩:=I.tuple hq
    have hlen:=r'.length
    obtain ⟨o,ho,hc,n,hd⟩:=pl
    exact call_list_seq p (.inr rfl) ho hc hd (fun h' c' kp e=>fin its r' hz h' c' kp e) (by simp only [List.size_toArray] <;> omega)
theorem call_tuple_of:CallR X (.type "tuple") (fun xs H Q=>∃ p ys,xs=[.ref p]∧((SqL X.K H p ys∧∀ l,H l=none→Q (.ref l) (upd H l (.tup ys)))∨(SqT X.K H p ys∧Q (.ref p) H))):=by
  intro pins s σ H xs us Q I r h
  obtain ⟨p,ys,rfl,h⟩:=h
  obtain ⟨u,rfl,rx⟩:=vals1 r
  cases rx
  rcases h with ⟨hq,q⟩ | ⟨hq,q⟩
  · obtain ⟨its,r',pl,hz⟩:=I.list hq
    have hlen:=r'.length
    refine call_tuple_list pl.isList (fun h' kp=>?_) (by simp only [List.size_toArray] <;> omega)
    have I1:Inv X pins σ H { s with heap:=h' }:=I.kept (t':=s.toks) kp
    have I2:Inv X pins σ (upd H h'.objs.size (.tup ys)) { s with heap:=h'.push { cls:=.type "tuple",data:=.seq its.toArray } } :=
      I1.laid (t':=s.toks) (fun b o e=>Heap.get?_push_of_some _ e) (Nat.le_refl _) (show ObjOk X.prog X.w _ _ _ (.tup ys) from ⟨hz,its,r',IsTup.new _ _⟩)
    exact ⟨.ref h'.objs.size,_,I2,rfl,q _ (I1.hok.fresh (Nat.le_refl _))⟩
  · obtain ⟨its,r',pl,hz⟩:=I.tuple hq
    exact call_tuple_same pl ⟨.ref p,H,I,rfl,q⟩
def tyV (K:PySem.W.Frag) (T:String) (x:V) (H:Hp):Prop:=match x with
  | .str _=>T="str"
  | .int _=>T="int"
  | .ref p=>(T="list"∧∃ xs,SqL K H p xs)∨(T="tuple"∧∃ o,K.lookup p=some o∧o.cls=.type "tuple"∧o.dict=none) ∨
      (T="dict"∧((∃ kvs,H p=some (.dK kvs))∨∃ kvs,H p=some (.dT kvs)))∨(T="set"∧∃ S n,H p=some (.set S n))
  | _=>False
theorem tyV_is {pins:List (Addr × Obj)} {σ:St} {H:Hp} {s:Shared} {T:String} {x:V} {v:Value} (I:Inv X pins σ H s) (r:RelV x v) (ty:tyV X.K T x H) :
    s.TypeIs v T∧∀ a,v=.ref a→∃ ob,s.heap.get? a=some ob∧ob.dict=none:=by
  cases x with
  | str z =>
    obtain ⟨t,rfl⟩:=r
    cases (show T="str" from ty)
    exact ⟨typeIs_str s z t,fun _ e=>nomatch e⟩
  | int i =>
    obtain ⟨t,rfl⟩:=r
    cases (show T="int" from ty)
    exact ⟨typeIs_int s i t,fun _ e=>nomatch e⟩
  | ref p =>
    cases r
    rcases ty with ⟨rfl,xs,hq⟩ | ⟨rfl,o,hk,hc,hd⟩ | ⟨rfl,hk⟩ | ⟨rfl,S,n,hk⟩
    · obtain ⟨its,_,pl,_⟩:=I.list hq
      refine ⟨pl.isList.typeIs,fun a e=>?_⟩
      cases e
      obtain ⟨o,n,e,c,hd,_⟩:=pl
      exact ⟨o,e,hd⟩
    · refine ⟨⟨o,I.kIn p o hk,hc⟩,fun a e=>?_⟩
      cases e
      exact ⟨o,I.kIn _ o hk,hd⟩
    · have z:∃ o,s.heap.get? p=some o∧o.ExactDict:=by
        rcases hk with ⟨kvs,hk⟩ | ⟨kvs,hk⟩
        · obtain ⟨_,_,_,_,o,_,_,e,ex,_⟩:=I.hok p _ hk
          exact ⟨o,e,ex⟩
        · obtain ⟨_,_,_,_,o,_,_,e,ex,_⟩:=I.hok p _ hk
          exact ⟨o,e,ex⟩
      obtain ⟨o,e,ex⟩:=z
      refine ⟨⟨o,e,ex.1⟩,fun a e2=>?_⟩
      cases e2
      exact ⟨o,e,ex.2.1⟩
    · obtain ⟨o,_,_,_,e,ex,_⟩:=I.hok p _ hk
      refine ⟨⟨o,e,ex.1⟩,fun a e2=>?_⟩
      cases e2
      exact ⟨o,e,ex.2.1⟩
  | _=>exact False.elim ty
def tBM (K:PySem.W.Frag) (T:String) (r:V→List V→Hp→VK→Prop) (to:TE) (t:TA):TE:=fun σ H Q=>to σ H fun x H1=>tyV K T x H1∧t σ H1 fun xs H2=>r x xs H2 Q
variable {o e : Expr} {es : List Expr} {to : TE} {t : TA} {name : Str} {apos cpos : Pos} {T id : String} {r : V → List V → Hp → VK → Prop}
theorem pe_bm (pa:PlainAttrs T) (slot:Slot T name id) (hty:typeOf (.builtin id)=pure (.type "method_descriptor")) (hm:MtR X id r) (ho:PE X o to) (ha:PA X (e :: es) t)
    (hbase:attributeBase o name X.env (eval o X.env)=eval o X.env:=by rfl)
    (hfew:((backTo cpos (starEach (e :: es) X.env)).all (fun x=>!x.1) && (backToKw cpos (keywordEach [] X.env)).all (fun x=>x.1.isSome)
      && decide ((e :: es).length + ([]:List Keyword).length + (if ([]:List Keyword).isEmpty then 0 else 1) < 30))=true:=by rfl)
    (hline:(apos.endLine == cpos.line)=true:=by rfl) (hs:starEach (e :: es) X.env=(false,eval e X.env) :: starEach es X.env:=by rfl) (hplain:(backTo cpos (starEach es X.env)).any (·.1)=false:=by rfl) :
    PE X (.Call (.Attribute o name apos) (e :: es) [] cpos) (tBM X.K T r to t):=by
  intro pins s σ H Q I h
  refine wpAny_Call_method_late hbase hfew hline rfl (thn (ho pins s σ H _ I h) fun v s1 ⟨x,H1,I1,r1,ty,q1⟩=>?_)
  obtain ⟨h1,h2⟩:=tyV_is I1 r1 ty
  refine ⟨T,id,pa,slot,hty,h1,h2,?_⟩
  have hA:=ha cpos pins s1 σ H1 _ I1 q1
  rw [hs] at hA ⊢
  refine Calls.callWith_builtin (by show (false || (backTo cpos (starEach es X.env)).any (·.1))=false; rw [hplain] <;> rfl) (Calls.evalArgs_plain ?_)
  exact thn hA fun us s2 ⟨vs,H2,I2,r2,q2⟩=>hm pins s2 σ H2 x vs v us Q I2 r1 r2 q2
/- xs.append(e),list.index on a module's tuple .. are MtR facts of 06m -/
end
end L2
namespace L2
open PySem PySem.Spec PyProof.Rows
def MtM (X:Cx) (id:String) (r:V→List V→Hp→VK→Prop):Prop :=
  ∀ (pins:List (Addr × Obj)) (s:Shared) (σ:St) (H:Hp) (x:V) (xs:List V) (v:Value) (us:List Value) (Q:VK),Inv X pins σ H s→RelV x v→Vals xs us→r x xs H Q →
    wpAny (model X.prog X.w) X.A (call (.builtin id) (v :: us)) (EP X pins σ Q) X.xe s
theorem Vals.one:∀ {x:V} {us:List Value},Vals [x] us→∃ u,us=[u]∧RelV x u
  | _,_,.cons r .nil=>⟨_,rfl,r⟩
theorem Vals.two:∀ {x y:V} {us:List Value},Vals [x,y] us→∃ u v,us=[u,v]∧RelV x u∧RelV y v
  | _,_,_,.cons r (.cons q .nil)=>⟨_,_,rfl,r,q⟩
theorem Vals.zero:∀ {us:List Value},Vals [] us→us=[]
  | _,.nil=>rfl
theorem Vals.dropLast {xs:List V} {us:List Value} (h:Vals xs us):Vals xs.dropLast us.dropLast:=by
  induction h with
  | nil=>exact .nil
  | cons r t ih =>
    cases t with
    | nil=>exact .nil
    | cons q t'=>exact .cons r ih
theorem Vals.rep {xs:List V} {us:List Value} (h:Vals xs us):∀ k:Nat,Vals (List.replicate k xs).flatten (List.replicate k us).flatten
  | 0=>.nil
  | k + 1=>by
    rw [List.replicate_succ,List.replicate_succ,List.flatten_cons,List.flatten_cons]
    exact Vals.append h (Vals.rep h k)
theorem foldl_rep (its:List Value):∀ (k:Nat) (acc:List Value),
    List.foldl (fun x1 x2=>x1 ++ x2) acc.toArray (List.replicate k its.toArray)=(acc ++ (List.replicate k its).flatten).toArray
  | 0,acc=>by simp
  | k + 1,acc=>by
    have e:acc.toArray ++ its.toArray=(acc ++ its).toArray:=by simp
    have e2:(acc ++ its) ++ (List.replicate k its).flatten=acc ++ (List.replicate (k + 1) its).flatten:=by
      rw [List.replicate_succ,List.flatten_cons,List.append_assoc]
    rw [← e2,← foldl_rep its k (acc ++ its),← e,List.replicate_succ,List.foldl_cons]
section
variable {X : Cx} {pins : List (Addr × Obj)} {σ : St} {H : Hp} {s : Shared} {l b : Addr} {xs ys zs : List V}
theorem Inv.lset {its its':List Value} {n:Nat} {f:Array Value→Array Value} {t':Nat} (I:Inv X pins σ H s) (hH:H l=some (.lst xs))
    (e:s.heap.get? l=some { cls:=.type "list",data:=.seq its.toArray n }) (hf:f its.toArray=its'.toArray) (hv:Vals ys its') (hz:ys.length≤sizeLine) :
    Inv X pins σ (upd H l (.lst ys)) { s with heap:=s.heap.update l (Obj.mapSeq f),toks:=t' }:=by
  have q:=PySem.IsL.update e f
  rw [hf] at q
  refine I.write (x:=l) (e:=l) (by rw [hH]; exact trivial) (.inl rfl) (fun b' u hb hu=>(Heap.get?_update_other s.heap (Obj.mapSeq f) (Ne.symm hb)).trans hu) ⟨_,q⟩ ?_
  exact ⟨hz,its',_,hv,q⟩
theorem Inv.lnew {its:List Value} {t':Nat} (I:Inv X pins σ H s) (hv:Vals ys its) (hz:ys.length≤sizeLine) :
    Inv X pins σ (upd H s.heap.objs.size (.lst ys)) { s with heap:=s.heap.push { cls:=.type "list",data:=.seq its.toArray },toks:=t' } :=
  I.laid (fun _ _ q=>Heap.get?_push_of_some _ q) (Nat.le_refl _) ⟨hz,its,0,hv,Heap.get?_push_size _ rfl⟩
theorem Inv.fresh (I:Inv X pins σ H s):H s.heap.objs.size=none:=I.hok.fresh (Nat.le_refl _)
theorem Inv.lstM (I:Inv X pins σ H s) (hH:H l=some (.lst xs)):xs.length≤sizeLine∧∃ (its:List Value) (n:Nat),Vals xs its∧xs.length=its.length∧s.heap.get? l=some { cls:=.type "list",data:=.seq its.toArray n }:=by
  obtain ⟨z,its,n,r,e⟩:=I.hok l _ hH
  exact ⟨z,its,n,r,r.length,e⟩
theorem notLongL {n:Nat} (h:n≤sizeLine):Builtin.List.listTooLong n=false:=by
  unfold Builtin.List.listTooLong
  exact decide_eq_false (by omega)
end
section
variable {X : Cx}
def rAppend:V→List V→Hp→VK→Prop:=fun x vs H Q=>∃ l xs y,x=.ref l∧vs=[y]∧H l=some (.lst xs)∧xs.length < sizeLine∧Q .non (upd H l (.lst (xs ++ [y])))
theorem mt_append:MtM X "list.append" rAppend:=by
  intro pins s σ H x vs v us Q I rx rv h
  obtain ⟨l,xs,y,rfl,rfl,hH,hz,q⟩:=h
  cases rx
  obtain ⟨u,rfl,ru⟩:=rv.one
  obtain ⟨z,its,n,r,hl,e⟩:=I.lstM hH
  refine call_meets F.slot_list_append ⟨_,e,rfl⟩ F.entry_list_append (F.args_list_append_2 _ _) (PySem.list_append l its.toArray n u (by rw [List.size_toArray]; omega)) ⟨e,?_⟩
  refine ⟨.non,_,I.lset (its':=its ++ [u]) hH e (by simp) (r.append (.cons ru .nil)) ?_,rfl,q⟩
  rw [List.length_append,List.length_singleton]
  omega
def rRep:R2:=fun x y H Q=>∃ l k xs,x=.ref l∧y=.int k∧H l=some (.lst xs)∧-(2 ^ 63)≤k∧k < 2 ^ 63∧xs.length * k.toNat≤sizeLine ∧
  ∀ p,H p=none→Q (.ref p) (upd H p (.lst (List.replicate k.toNat xs).flatten))
theorem len_rep {α:Type} (xs:List α) (k:Nat):(List.replicate k xs).flatten.length=k * xs.length:=by
  induction k with
  | zero=>simp
  | succ k ih=>rw [List.replicate_succ,List.flatten_cons,List.length_append,ih,Nat.succ_mul,Nat.add_comm]
theorem op_rep:OpR X (binaryOp .Mult) rRep:=by
  intro pins s σ H x y v u Q I rx ry h
  obtain ⟨l,k,xs,rfl,rfl,hH,h1,h2,hz,q⟩:=h
  cases rx
  obtain ⟨t,rfl⟩:=ry
  obtain ⟨z,its,n,r,hl,e⟩:=I.lstM hH
  have hlen:its.toArray.size * k.toNat≤sizeLine:=by rw [List.size_toArray,← hl]; exact hz
  have hcap:¬ its.toArray.size * k.toNat > (2 ^ 63 - 1) / 8:=by
    have:(sizeLine:Nat)≤(2 ^ 63 - 1) / 8:=by decide
    omega
  have hfit:¬ (!Builtin.List.listFitsIndex k)=true:=by
    rw [fitsIndex_both h1 h2]
    exact Bool.false_ne_true
  have hlong:¬ Builtin.List.listTooLong (its.toArray.size * k.toNat)=true:=by
    rw [notLongL hlen]
    exact Bool.false_ne_true
  have hnew:List.foldl (fun x1 x2=>x1 ++ x2) #[] (List.replicate (if its.toArray.isEmpty=true then 0 else k.toNat) its.toArray)=(List.replicate k.toNat its).flatten.toArray:=by
    have f0:∀ m:Nat,List.foldl (fun x1 x2=>x1 ++ x2) #[] (List.replicate m its.toArray)=(List.replicate m its).flatten.toArray:=fun m=>by
      have:=foldl_rep its m []
      rw [List.nil_append] at this
      exact this
    rw [f0]
    cases its with
    | nil=>simp
    | cons a r'=>rw [if_neg (by simp)]
  refine wpAny_binaryOp_repeat_ref (T:="list") (U:="int") (by decide) ⟨_,e,rfl⟩ (fun s'=>typeIs_int s' k t) noFill_list_mul F.fills_int_mul F.slot_int_rmul repeat_list F.slot_int_index.lookup
    (call_meets F.slot_int_rmul (typeIs_int s k t) F.entry_int_rmul (F.args_int_rmul_2 _ _) (int___rmul___int_list k t l its.toArray n)
      ⟨e,rfl,⟨_,e,rfl⟩,call_meets F.slot_list_mul ⟨_,e,rfl⟩ F.entry_list_mul (F.args_list_mul_2 _ _) (AutoListH.list___mul___list_int_3 l its.toArray n k t hfit hcap hlong) ⟨e,?_⟩⟩)
  rw [hnew]
  exact ⟨.ref _,_,I.lnew (t':=s.toks) (r.rep k.toNat) (by rw [len_rep,Nat.mul_comm]; exact hz),rfl,q _ I.fresh⟩
end
section
variable {prog : Program} {w : World} {A : Around} {E : Value → Shared → Prop} {s : Shared}
end
section
variable {X : Cx}
end
end L2
namespace Att
open PySem PySem.W PySem.Calls PyProof.Rows
theorem ints_of_wellAll {P:Params} {h:Heap}:∀ (ns:List Int) (vs:List Value),WellAll P h vs (ns.map WData.int)→IntsAre vs ns:=by
  intro ns
  induction ns with
  | nil =>
    intro vs w
    rw [List.map_nil] at w
    cases w
    exact .nil
  | cons n ns ih =>
    intro vs w
    rw [List.map_cons] at w
    cases w with
    | cons a b =>
      cases a
      exact .cons _ _ (ih _ b)
theorem script_of {l:OpenLaw} {n:Nat} (hn:l.most=some n) {P:Params} {h:Heap} {args:List WData} {vals:List Value}
    (hpre:l.row.toRowW.claim.pre args=true) (hwl:WellAll P h vals args) :
    ∃ a vs ns,vals=[Value.ref a]∧args=[WData.list (ns.map WData.int)]∧h.get? a=some { cls:=.type "list",data:=.seq vs.toArray }∧IntsAre vs ns∧ns.length≤n:=by
  have hsh:WShape.hasAll [] args [.list .int]=true:=(pre_splitW hpre).1
  have hc:l.pre.holds [] { args:=args }=true:=(pre_splitW hpre).2
  obtain ⟨d,r,rfl,h1,h2⟩:=hasAllW_cons hsh
  obtain rfl:=hasAllW_nil h2
  obtain ⟨xs,rfl,h3⟩:=hasW_list h1
  obtain ⟨ns,rfl⟩:=items_int h3
  have hlen:ns.length≤n:=by
    unfold OpenLaw.pre at hc
    have h4:(WTm.not (.lt (.lit (.int (n:Int))) (.len (.arg 0)))).holds [] { args:=[.list (ns.map .int)] }=true:=by
      have h4:=(holds_andW hc).1
      rw [hn] at h4
      exact h4
    have h5:=condW_of h4 (w_not (w_lt w_lit (w_len_list (w_arg rfl))))
    rw [List.length_map] at h5
    refine Nat.le_of_not_lt fun q=>?_
    have q':(n:Int) < ((ns.length:Nat):Int):=by omega
    first
      | (rw [decide_eq_true q'] at h5; exact absurd h5 (by decide))
      | (simp at h5; omega)
  cases hwl with
  | cons w1 w2 =>
    cases w2
    cases w1 with
    | list ho hall=>exact ⟨_,_,ns,rfl,rfl,ho,ints_of_wellAll ns _ hall,hlen⟩
theorem post_true (l:OpenLaw) (args:List WData):l.row.toRowW.claim.post args (.bool true) args=true :=
  postW_of (r:=l.row.toRowW) (X:=(true == true))
    (show WShape.has [] (.bool true) .bool=true by first | rfl | decide | simp [WShape.has,WShape.arms,WShape.armsAll])
    (show (WTm.eq .res (.lit (.bool true))).value [] { args:=args,res:=some (.bool true),after:=args }=some (.bool (true == true)) from w_eq_bool (w_res rfl) w_lit) rfl
theorem attach_call {l:OpenLaw} {n:Nat} {q:Program} {loose:List Str} {XP:(Str→Option Value)→Heap→Prop} {YP:World→Heap→Prop} {d:DefRec}
    (hn:l.most=some n) (hdf:d.params.defaults=[])
    (call:∀ (w:World) (s₀ s₁:Shared) (mg mb:Str→Option Value) (fa:Addr) (o:Obj) (pm cd doc:Value) (a:Addr) (vs:List Value) (ns:List Int),
      Ground q loose [] XP w s₀ mg mb s₁.heap→YP w s₁.heap →
      s₁.heap.get? fa=some o→o.data=.func (docDef d.name d.params d.body d.scope pm cd doc)→s₁.heap.CodeRec cd d.name→mg d.name=some (.ref fa) →
      s₁.heap.get? a=some { cls:=.type "list",data:=.seq vs.toArray }→IntsAre vs ns→ns.length≤n→s₁.gens=#[] →
      codeAny (model l.prog w) callerA (.call (.ref fa) ⟨[.ref a],[]⟩) (fun r s'=>r=.ok (.ret (.bool true))∧OldK s₁.heap s'.heap∧s'.os=s₁.os∧AllBare s'.gens) s₁) :
    WalkO q loose XP YP l.row.toRowW d [] (fun f vs=>PySem.call f vs):=by
  intro w s₀ s₁ mg mb G Y fa o pm cd doc dV kV ho hd hcd hD hmg hg args vals as hpre hlay hrd hwl hlo
  obtain rfl:dV=.none:=Dflts.none hD hdf
  obtain rfl:kV=.none:=Dflts.noKw hD
  obtain ⟨a,vs,ns,rfl,rfl,hobj,hints,hlen⟩:=script_of hn hpre hwl
  refine enter_call (codeAny_mono (call w s₀ s₁ mg mb fa o pm cd doc a vs ns G Y ho (fd_plain hd) hcd hmg hobj hints hlen hg) fun r s' hq=>?_)
  obtain ⟨rfl,h2,h3,h4⟩:=hq
  exact ⟨.inl ⟨.bool true,.bool true,[],rfl,fun _=>rfl,.bool true,post_true l _,fun _=>⟨List.Pairwise.nil,fun _ hm=>(nomatch hm)⟩⟩,h2,h3,h4⟩
section
variable {prog : Program} {w : World} {A : Around} {E : Value → Shared → Prop} {s : Shared} {K : Frag}
end
end Att
namespace L2
open PySem PySem.Spec PyProof.Rows
theorem vals_ints:∀ {vs:List Value} {ns:List Int},IntsAre vs ns→Vals (ns.map V.int) vs
  | _,_,.nil=>.nil
  | _,_,.cons n t h=>.cons ⟨t,rfl⟩ (vals_ints h)
def Only (H:Hp):Prop:=∀ b,H b=none∨∃ o xs,H b=some (.frz o (.lst xs))
theorem law_call {P:Program} {w:World} {K:PySem.W.Frag} {mg mb:Str→Option Value} {CX:CXT} {k:Nat} {fa a:Addr} {fd:FuncData} {x:Str} {sp:Sp} {s₁:Shared} {vs:List Value} {ns:List Int}
    (KX:K.In s₁.heap) (hns:s₁.heap.Ns mainGlobals mg) (hb:s₁.heap.Ns builtinsNs mb) (hbb:∀ x:Str,x≠"__name__"→mb x=bootBuiltins x) (hlim:s₁.heap.NoLimit) (hseer:s₁.heap.NoSeer) (hg:s₁.gens=#[])
    (ha:s₁.heap.get? a=some { cls:=.type "list",data:=.seq vs.toArray }) (hi:IntsAre vs ns) (hl:ns.length≤sizeLine) (hr:Room k callerA)
    (F:∀ base:Heap,K.In base→base.Ns mainGlobals mg→FnOk P w K mg base CX k fa fd [x] sp) (hbind:∀ (s:Shared) (u:Value),BindsTo s fd ⟨[u],[]⟩ [(x,u)])
    (hsp:∀ H:Hp,Only H→SqL K H a (ns.map V.int)→sp [.ref a] H (fun v _=>v=.bl true) fun _ _ _=>False)
    (hCX:∀ H e s',CX [] H s₁ (fun _ _ _=>False) e s'→False) :
    codeAny (model P w) callerA (.call (.ref fa) ⟨[.ref a],[]⟩) (fun r s'=>r=.ok (.ret (.bool true))∧OldK s₁.heap s'.heap∧s'.os=s₁.os∧AllBare s'.gens) s₁:=by
  have rv:=vals_ints hi
  have lenV:=hi.length
  have core:∀ H:Hp,Only H→SqL K H a (ns.map V.int)→HOk P w H s₁.heap→(∀ b,H b≠none→b=a)→(H a≠none→K.lookup a=none) →
      codeAny (model P w) callerA (.call (.ref fa) ⟨[.ref a],[]⟩) (fun r s'=>r=.ok (.ret (.bool true))∧OldK s₁.heap s'.heap∧s'.os=s₁.os∧AllBare s'.gens) s₁:=by
    intro H hO hS hok hA hK
    have base_of:∀ {b:Addr} {o:Obj},s₁.heap.get? b=some o→H b=none→(hidT s₁.heap H).get? b=some o:=fun e n=>hidT_get e n
    have noA:∀ {b:Addr} {o:Obj} {es:Array DictEntry} {ep:Nat},s₁.heap.get? b=some o→o.data=.dict es ep→H b=none:=fun {b o es ep} e d=>by
      cases q:H b with
      | none=>rfl
      | some u =>
        have e':b=a:=hA b (by rw [q]; simp)
        subst e'
        rw [ha] at e; cases e
        have d':Data.seq vs.toArray _=Data.dict es ep:=d
        cases d'
    have nsK:∀ {b:Addr} {m:Str→Option Value},s₁.heap.Ns b m→(hidT s₁.heap H).Ns b m:=fun {b m} ⟨o,es,ep,e,d,r⟩=>⟨o,es,ep,base_of e (noA e d),d,r⟩
    have hKb:K.In (hidT s₁.heap H):=fun b o e=>base_of (KX b o e) (by
      cases q:H b with
      | none=>rfl
      | some u =>
        have e':b=a:=hA b (by rw [q]; simp)
        subst e'
        rw [hK (by rw [q]; simp)] at e; cases e)
    have hmain:∃ mg bm ob,(hidT s₁.heap H).Ns mainGlobals mg∧mg "__builtins__"=some (.ref bm)∧(hidT s₁.heap H).get? bm=some ob∧ob.cls=.type "module"∧ob.dict=some builtinsNs:=by
      obtain ⟨mg',bm,ob,h1,h2,h3,h4,h5⟩:=hseer.main
      refine ⟨mg',bm,ob,nsK h1,h2,base_of h3 ?_,h4,h5⟩
      cases q:H bm with
      | none=>rfl
      | some u =>
        have e':bm=a:=hA bm (by rw [q]; simp)
        subst e'
        rw [ha] at h3
        cases h3
        have z:Value.type "list"=Value.type "module":=h4
        exact absurd z (by decide)
    have hM:Mod K mg (hidT s₁.heap H):=⟨hKb,nsK hns,⟨mb,nsK hb,hbb⟩,let ⟨mc,h1,h2⟩:=hlim; ⟨mc,nsK h1,h2⟩,⟨let ⟨mc,h1,h2⟩:=hseer.statics; ⟨mc,nsK h1,h2⟩,let ⟨mc,h1,h2⟩:=hseer.mods; ⟨mc,nsK h1,h2⟩,let ⟨mc,h1,h2⟩:=hseer.imp; ⟨mc,nsK h1,h2⟩,hmain⟩⟩
    have e0:Env0 P w K mg (hidT s₁.heap H) callerA [] s₁ H:=⟨rfl,hM,fun b o e=>of_hidT e,Nat.le_of_eq (hidT_size _ _),trivial,fun b hb=>absurd (show b∈([]:List Addr) from hb) (by simp),hok,.of_eq hg⟩
    refine codeAny_mono ((F _ hKb (nsK hns)).run callerA [] s₁ H ⟨[.ref a],[]⟩ [.ref a] [.ref a] _ _ hr e0 (hbind s₁ (.ref a)) (.cons rfl .nil) (hsp H hO hS)) fun r s' h=>?_
    cases r with
    | error e=>exact (hCX H e s' h).elim
    | ok fl =>
      cases fl with
      | next=>exact False.elim h
      | brk=>exact False.elim h
      | cont=>exact False.elim h
      | ret u =>
        obtain ⟨v,H',os,bare,un,hok',r',q⟩:=h
        have q':v=.bl true:=q
        subst q'
        obtain rfl:u=Value.bool true:=r'
        refine ⟨rfl,OldK.of_keep fun b o e=>?_,os,bare⟩
        cases q:H b with
        | none=>exact un.keep b o e q (by intro z; exact absurd (show b∈([]:List Addr) from z) (by simp)) (by simp)
        | some u =>
          rcases hO b with z | ⟨ob,xs,z⟩
          · rw [q] at z; cases z
          · have z2:=un.frzs b ob _ z
            obtain ⟨e1,_⟩:=hok b _ z
            obtain ⟨e2,_⟩:=hok' b _ z2
            rw [e] at e1; cases e1
            exact e2
  cases hk:K.lookup a with
  | some o =>
    have e:=KX a o hk
    rw [ha] at e
    cases e
    refine core (fun _=>none) (fun _=>.inl rfl) (.inr ⟨_,vs.toArray,_,hk,rfl,rfl,rfl,by rw [List.size_toArray,lenV]; exact hl,by simpa using rv⟩) (fun b u z=>by have z':(none:Option HO)=some u:=z; cases z') (fun b z=>absurd rfl z) fun z=>absurd rfl z
  | none =>
    refine core (fun b=>if b=a then some (.frz { cls:=.type "list",data:=.seq vs.toArray } (.lst (ns.map V.int))) else none) (fun b=>?_) (.inl (.inr ⟨{ cls:=.type "list",data:=.seq vs.toArray },if_pos rfl⟩)) (fun b u z=>?_) (fun b z=>?_) fun _=>hk
    · by_cases hb:b=a
      · exact .inr ⟨_,_,if_pos hb⟩
      · exact .inl (if_neg hb)
    · by_cases hb:b=a
      · have z':=(if_pos hb).symm.trans z
        cases z'
        subst hb
        exact ⟨ha,by rw [List.length_map]; exact hl,vs,_,rv,ha⟩
      · have z':=(if_neg hb).symm.trans z
        cases z'
    · by_cases hb:b=a
      · exact hb
      · exact absurd (if_neg hb) z
end L2
namespace L2
open PySem PySem.Spec PyProof.Rows
abbrev KOf {K:PySem.W.Frag} {h:Heap} (_:K.In h):PySem.W.Frag:=K
theorem walk_of {l:PySem.W.OpenLaw} {n k:Nat} {q:Program} {loose:List Str} {XP:(Str→Option Value)→Heap→Prop} {YP:World→Heap→Prop} {d:DefRec} {K:Params→PySem.W.Frag} {CX:World→CXT} {sp:World→Sp} {x:Str}
    (hn:l.most=some n) (hn2:n≤sizeLine) (hdf:d.params.defaults=[]) (hr:Room k callerA)
    (hY:∀ (w:World) (h:Heap),YP w h→(K w.params).In h)
    (F:∀ (w:World) (mg:Str→Option Value) (fa:Addr) (h:Heap),(K w.params).In h→h.Ns mainGlobals mg→mg d.name=some (.ref fa) →
      ∃ fd:FuncData,(∀ (s:Shared) (u:Value),BindsTo s fd ⟨[u],[]⟩ [(x,u)]) ∧
        ∀ base:Heap,(K w.params).In base→base.Ns mainGlobals mg→FnOk l.prog w (K w.params) mg base (CX w) k fa fd [x] (sp w))
    (hsp:∀ (w:World) (H:Hp) (a:Addr) (ns:List Int),ns.length≤n→Only H→SqL (K w.params) H a (ns.map V.int)→sp w [.ref a] H (fun v _=>v=.bl true) fun _ _ _=>False)
    (hCX:∀ (w:World) (H:Hp) (s:Shared) (e:Value) (s':Shared),CX w [] H s (fun _ _ _=>False) e s'→False) (him:importsNone q=true) :
    PySem.W.WalkO q loose XP YP l.row.toRowW d [] (fun f vs=>PySem.call f vs):=by
  refine Att.attach_call hn hdf fun w s₀ s₁ mg mb fa o pm cd doc a vs ns G Y ho hd hcd hmg hobj hints hlen hg=>?_
  have KX:=hY w _ Y
  obtain ⟨fd,hb,hF⟩:=F w mg fa _ KX G.T.g hmg
  exact law_call KX G.T.g G.T.b G.T.builtins G.T.nolimit (G.T.seer him) hg hobj hints (Nat.le_trans hlen hn2) hr hF hb (fun H hO hS=>hsp w H a ns hlen hO hS) fun H e s'=>hCX w H s₁ e s'
end L2
/- THE LAST THEOREM (shape; LID, My.* are yours):
   My.Adr: a structure of the addresses that your layer names (classes, functions); My.Txt K t: a structure (Prop) of the equations over K;
   My.txt_mk : {K} {implicit addresses ..} (e1 : nsIn K mainGlobals "law" = some (some (.ref f))) (e2 : K.lookup f = some ⟨oc, od, .func (fnOf "law" "law" params body scope dV kV doc pm an cdv ct), sl⟩) (e3 : codeIn K cdv "law" = true) .. : ∃ t, My.Txt K t
set_option maxRecDepth 100000 in
set_option maxHeartbeats 0 in
theorem PySem.Challenge.cw_LID_holds : PySem.Challenge.rw_LID.Holds := by
  w_on; o_law; k_head; (case hw => w_witness2)
  k_fill
  refine L2.walk_of (l := PySem.Challenge.rw_LID) (n := 63) (k := 40) (x := "script") (CX := fun w => ..) (sp := fun _ => My.sp_law) rfl (by decide) rfl ⟨rfl, by decide, by decide⟩ (fun w h Y => PySem.W.kIn_of Y) ?F ?S ?C
  case F =>
    intro w mg fa h KX G hmg
    have T : ∃ t, My.Txt (L2.KOf KX) t := by
      dsimp only [L2.KOf]                          -- K must stand as «<heap const> w.params» for k_is
      refine' My.txt_mk ?e1 ?e2 ?e3 ..
      (case e1 => PySem.W.k_is)                    -- in the order: a name -> its address -> its object -> its parts
      (case e2 => PySem.W.k_is)
      ..
    obtain ⟨t, T⟩ := T
    have e0 := hmg.symm.trans (PySem.W.mg_of KX G T.law)
    cases e0                                       -- fa is the law's own address
    exact ⟨_, fun s u => .of_eq rfl, fun base kb nb => My.law_fn T kb nb⟩     -- if «.of_eq rfl» comes too early: refine' ⟨_, ?b, fun base kb nb => My.law_fn T kb nb⟩; exact fun s u => .of_eq rfl
  case S => exact fun w H a ns hl hO hS => ..
  case C => exact ..
(the tactic k_is has no namespace: write k_is) -/
namespace L2
open PySem PySem.Spec PyProof.Rows
def inClass (s:Stmt) (j:Nat):Stmt:=match s with
  | .ClassDef _ _ _ body _ _ _ _ _ _ _=>body.getD j (.Pass ⟨0,0,0,0⟩)
  | _=>.Pass ⟨0,0,0,0⟩
def defArgs (s:Stmt):Arguments:=match s with
  | .FunctionDef _ a _ _ _ _ _ _ _ _=>a
  | _=>{ posonlyargs:=[],args:=[],vararg:=none,kwonlyargs:=[],kw_defaults:=[],kwarg:=none,defaults:=[] }
def defBody (s:Stmt):List Stmt:=match s with
  | .FunctionDef _ _ b _ _ _ _ _ _ _=>b
  | _=>[]
def defScope (s:Stmt):Scope:=match s with
  | .FunctionDef _ _ _ _ _ _ sc _ _ _=>sc
  | _=>{ kind:=.function,names:=[],isGenerator:=false,isCoroutine:=false }
abbrev CX0:CXT:=fun _ _ _ _ _ _=>False
abbrev E0:XK:=fun _ _ _=>False
structure Fun (K:PySem.W.Frag) (x qual:Str) (st:Stmt) (f:Addr) (fd:FuncData):Prop where
  ex:∃ (oc:Value) (od:Option Addr) (kV doc pm:Value) (an:Option Addr) (cdv ct:Value) (osl:Array (Option Value)),
    fd=PySem.W.fnOf x qual (defArgs st) (defBody st) (defScope st) .none kV doc pm an cdv ct∧K.lookup f=some ⟨oc,od,.func fd,osl⟩∧PySem.W.codeIn K cdv qual=true
  kp:PySem.W.keepIn K (.ref f)=true
section
variable {P : Program} {w : World} {K : PySem.W.Frag} {mg : Str → Option Value} {base : Heap}
theorem Fun.binds {x qual:Str} {st:Stmt} {f:Addr} {fd:FuncData} {ps:List Str} (F:Fun K x qual st f fd)
    (h:∀ (kV doc pm:Value) (an:Option Addr) (cdv ct:Value) (us:List Value),us.length=ps.length→bindArgs (PySem.W.fnOf x qual (defArgs st) (defBody st) (defScope st) .none kV doc pm an cdv ct) ⟨us,[]⟩=pure (ps.zip us)):Binds K fd ps []:=by
  obtain ⟨oc,od,kV,doc,pm,an,cdv,ct,osl,rfl,lk,hcd⟩:=F.ex
  exact .all (h kV doc pm an cdv ct)
theorem fun_mk {x qual:Str} {st:Stmt} {f:Addr} {oc:Value} {od an:Option Addr} {osl:Array (Option Value)} {kV doc pm cdv ct:Value} (l:K.lookup f=some ⟨oc,od,.func (PySem.W.fnOf x qual (defArgs st) (defBody st) (defScope st) .none kV doc pm an cdv ct),osl⟩)
    (c:PySem.W.codeIn K cdv qual=true) (k:PySem.W.keepIn K (.ref f)=true):Fun K x qual st f (PySem.W.fnOf x qual (defArgs st) (defBody st) (defScope st) .none kV doc pm an cdv ct):=⟨⟨oc,od,kV,doc,pm,an,cdv,ct,osl,rfl,l,c⟩,k⟩
end
section
variable {X : Cx}
theorem pv (i:Nat) {x:Str} {pos:Pos} (hN:X.N[i]?=some x:=by rfl) (hv:Vis X.env.scope x:=by first | exact Or.inl rfl | exact Or.inr (Or.inl rfl) | exact Or.inr (Or.inr rfl)) (hd:(x == ("__debug__":Str))=false:=by decide)
    (hcd:(x == ("__classdict__":Str))=false:=by decide):PE X (.Name x pos) (tVar i):=pe_var hN hv hd hcd
end
theorem iteF {A B:Prop} (h:B):if false=true then A else B:=by
  rw [if_neg Bool.false_ne_true]
  exact h
theorem iteT {A B:Prop} (h:A):if true=true then A else B:=by
  rw [if_pos rfl]
  exact h
theorem ite2 {c A B:Prop} [Decidable c] (h1:c→A) (h2:¬ c→B):if c then A else B:=by
  by_cases h:c
  · rw [if_pos h]
    exact h1 h
  · rw [if_neg h]
    exact h2 h
def Same (H H':Hp):Prop:=∀ b o,H b=some o→H' b=some o
theorem Same.refl (H:Hp):Same H H:=fun _ _ h=>h
theorem Same.trans {H H1 H2:Hp} (a:Same H H1) (b:Same H1 H2):Same H H2:=fun c o h=>b c o (a c o h)
theorem Same.free {H H':Hp} (e:Same H H') {l:Addr} (h:H' l=Option.none):H l=Option.none:=by
  cases q:H l with
  | none=>rfl
  | some o =>
    rw [e l o q] at h
    cases h
theorem Same.seq {K:PySem.W.Frag} {H H':Hp} {a:Addr} {xs:List V} (e:Same H H') (h:SqL K H a xs):SqL K H' a xs:=by
  rcases h with (h | ⟨o,h⟩) | h
  · exact .inl (.inl (e _ _ h))
  · exact .inl (.inr ⟨o,e _ _ h⟩)
  · exact .inr h
end L2
namespace L2
open PySem PySem.Spec PyProof.Rows
section
variable {P : Program} {w : World} {H H' : Hp} {h h' : Heap} {a : Addr} {o : HO}
theorem ObjOk.there (x:ObjOk P w H h a o):∃ ob,h.get? a=some ob:=by
  cases o with
  | lst xs=>obtain ⟨_,_,_,_,e⟩:=x; exact ⟨_,e⟩
  | tup xs=>obtain ⟨_,_,_,ob,e,_⟩:=x; exact ⟨_,e⟩
  | dK kvs=>obtain ⟨_,_,_,_,ob,_,_,e,_⟩:=x; exact ⟨_,e⟩
  | dT kvs=>obtain ⟨_,_,_,_,ob,_,_,e,_⟩:=x; exact ⟨_,e⟩
  | set S n=>obtain ⟨ob,_,_,_,e,_⟩:=x; exact ⟨_,e⟩
  | ins C dx fs=>obtain ⟨_,_,_,e,_⟩:=x; exact ⟨_,e⟩
  | own y=>obtain ⟨_,e⟩:=x; exact ⟨_,e⟩
  | xd fs=>obtain ⟨_,⟨_,_,_,e,_⟩,_⟩:=x; exact ⟨_,e⟩
  | rng lo hi=>obtain ⟨_,_,_,e⟩:=x; exact ⟨_,e⟩
  | frz ob u=>obtain ⟨e,_⟩:=x; exact ⟨_,e⟩
  | tbl ps=>exact ⟨_,(show h.get? a=some _ from x)⟩
  | met f y=>exact ⟨_,(show h.get? a=some _ from x)⟩
  | ext φ=>obtain ⟨_,e,_⟩:=x; exact e
end
def FlyB (outer:List Env) (H':Hp) (hs:Heap) (x:Addr) (cls:Value) (h:Heap):Prop :=
  ∃ (B:Heap) (a0:Value),Heap.FlyingW B outer x cls a0 h∧(∀ b,H' b≠none→∃ o,B.get? b=some o)∧(∀ b o,hs.get? b=some o→b ∉ frs outer→∃ o',B.get? b=some o')
def CXE (P:Program) (w:World):CXT:=fun outer H s E e s' =>
  ∃ (x:Addr) (cls:Value) (H':Hp),e=.ref x∧s'.os=s.os∧AllBare s'.gens∧Un (frs outer) [] H H' s.heap s'.heap∧HOk P w H' s'.heap∧FlyB outer H' s.heap x cls s'.heap∧E cls none H'
theorem fly_turn {P:Program} {w:World} {outer:List Env} {H H':Hp} {hs h h' B:Heap} (u:Un (frs outer) [] H H' hs h) (ok:HOk P w H' h) (t:∀ b,H' b≠none→∃ o,B.get? b=some o)
    (el:∀ b o,hs.get? b=some o→b ∉ frs outer→∃ o',B.get? b=some o') (k:B.StaysIn h) (k':B.StaysIn h') (ff:h.FunFrames B outer) (up:h.UpToSlots h') :
    Un (frs outer) [] H H' hs h'∧HOk P w H' h':=by
  have inB:∀ b o,(∃ o',B.get? b=some o')→h.get? b=some o→h'.get? b=some o:=fun b o ⟨o',e'⟩ e=>by
    have z:=k b o' e'
    rw [e] at z
    cases z
    exact k' b _ e'
  have fr:∀ b o,b∈frs outer→h.get? b=some o→∃ sl,h'.get? b=some { o with slots:=sl }:=fun b o hb e=>by
    obtain ⟨_,o2,e2,d⟩:=ff.mem hb
    rw [e] at e2
    cases e2
    exact up b _ e d
  refine ⟨⟨fun b o e n hb hx=>inB b o (el b o e hb) (u.keep b o e n hb hx),fun b o e n hb hx=>?_,u.free,fun b o e hx=>?_,u.tups,u.frzs,u.tbls⟩,fun a o e=>(ok a o e).stay (fun b v hb q=>inB b v (t b ?_) q) (fun _ q=>q) fun _ _ q=>q⟩
  · obtain ⟨sl,e1⟩:=u.slot b o e n hb hx
    obtain ⟨sl',e3⟩:=fr b _ hb e1
    exact ⟨sl',e3⟩
  · obtain ⟨o1,e1⟩:=u.there b o e hx
    by_cases hb:b∈frs outer
    · obtain ⟨sl,e3⟩:=fr b _ hb e1
      exact ⟨_,e3⟩
    · exact ⟨o1,inB b o1 (el b o e hb) e1⟩
  · rcases hb with z | z
    · rw [z,e]; exact fun z=>nomatch z
    · rw [z]; exact fun z=>nomatch z
section
variable {P : Program} {w : World} {K : PySem.W.Frag} {mg : Str → Option Value} {base : Heap} {N : List Str} {qual : Str} {scope : Scope} {f : Addr} {cd : Value} {A : Around} {outer : List Env} {s : Shared} {H : Hp} {E : XK}
theorem pass_cx:Passes (CXE P w) (cxOf (CXE P w) P w K mg base N qual scope f cd A outer s H E) E:=by
  intro pins σ H1 s1 e s' I h
  obtain ⟨x,cls,H',rfl,os,bare,un,hok,⟨B,a0,fl,t,el⟩,q⟩:=h
  refine wpAny_leaves_onW (base:=B) (L:=s.heap.objs.size) I.ok.frames rfl fl fun h' fl' up=>?_
  obtain ⟨un',hok'⟩:=fly_turn un hok t el fl.1 fl'.1 fl.2.2.1 up
  have I':=I.call (h':=h') (g':=s'.gens) (d':=s'.drawn) (t':=s'.toks) (ch:=[]) un' hok' bare (fun b z=>absurd z (by simp))
  refine ⟨x,cls,H',rfl,os.trans I.os,bare,I'.base,hok',⟨B,a0,fl',t,fun b o e nb=>?_⟩,q⟩
  obtain ⟨o1,e1⟩:=I.base.there b o e (fun z=>nomatch z)
  refine el b o1 e1 fun z=>?_
  rcases List.mem_cons.mp (I.stkSub b z) with z' | z'
  · rw [z'] at e
    exact absurd (Heap.lt_size e) (Nat.lt_irrefl _)
  · exact nb z'
theorem raise_cx {pins:List (Addr × Obj)} {σ:St} {H1:Hp} {s1:Shared} {h1:Heap} {e:Addr} {cls:Value} {vs:List Value} (I:Inv (cxOf (CXE P w) P w K mg base N qual scope f cd A outer s H E) pins σ H1 s1)
    (hk:scope.kind=.function) (mx:Heap.MadeExcOf s1.heap h1 e cls vs) (q:E cls none H1):(cxOf (CXE P w) P w K mg base N qual scope f cd A outer s H E).xe (.ref e) { s1 with heap:=h1 }:=by
  have fs:=I.stack
  have hin:∀ env∈(cxOf (CXE P w) P w K mg base N qual scope f cd A outer s H E).stack,∀ b,env.frame=some b→b∈frs (cxOf (CXE P w) P w K mg base N qual scope f cd A outer s H E).stack:=fun env he b hb=>List.mem_filterMap.mpr ⟨env,he,hb⟩
  have ff:=PySem.W.funFrames_hide fs hin
  have st:(PySem.W.hideAll s1.heap (frs (cxOf (CXE P w) P w K mg base N qual scope f cd A outer s H E).stack)).StaysIn s1.heap:=fun b o z=>PySem.W.of_hideAll _ z
  have I1:Inv _ pins σ H1 { s1 with heap:=h1 }:=I.kept (h':=h1) (t':=s1.toks) mx.keeps
  have un1:Un (frs (cxOf (CXE P w) P w K mg base N qual scope f cd A outer s H E).stack) [] H1 H1 s1.heap h1:=Un.kept mx.keeps
  have tr:∀ b,H1 b≠none→∃ o,(PySem.W.hideAll s1.heap (frs (cxOf (CXE P w) P w K mg base N qual scope f cd A outer s H E).stack)).get? b=some o:=fun b n=>by
    cases z:H1 b with
    | none=>exact absurd z n
    | some u =>
      obtain ⟨o,e⟩:=(I.hok b u z).there
      exact ⟨o,PySem.W.hideAll_get _ e fun m=>by rw [I.stkFree b m] at z; cases z⟩
  have el:∀ b o,s1.heap.get? b=some o→b ∉ frs (cxOf (CXE P w) P w K mg base N qual scope f cd A outer s H E).stack→∃ o',(PySem.W.hideAll s1.heap (frs (cxOf (CXE P w) P w K mg base N qual scope f cd A outer s H E).stack)).get? b=some o' :=
    fun b o e n=>⟨o,PySem.W.hideAll_get _ e n⟩
  refine wpAny_leaves_madeW (base:=PySem.W.hideAll s1.heap (frs (cxOf (CXE P w) P w K mg base N qual scope f cd A outer s H E).stack)) (L:=s.heap.objs.size) I.ok.frames rfl st ff mx fun h' t fl' _ _ up=>?_
  have k1:(PySem.W.hideAll s1.heap (frs (cxOf (CXE P w) P w K mg base N qual scope f cd A outer s H E).stack)).StaysIn h1:=fun b o z=>mx.keeps b o (st b o z)
  have ff1:h1.FunFrames (PySem.W.hideAll s1.heap (frs (cxOf (CXE P w) P w K mg base N qual scope f cd A outer s H E).stack)) (cxOf (CXE P w) P w K mg base N qual scope f cd A outer s H E).stack:=ff.of_keeps fun b o z _=>⟨o,mx.keeps b o z,rfl⟩
  obtain ⟨un',hok'⟩:=fly_turn un1 I1.hok tr el k1 fl'.1 ff1 up
  have I':=I.call (h':=h') (g':=s1.gens) (d':=s1.drawn) (t':=s1.toks) (ch:=[]) un' hok' I.bare (fun b z=>absurd z (by simp))
  refine ⟨e,cls,H1,rfl,I.os,I.bare,I'.base,hok',⟨_,.ref t,fl',tr,fun b o e' nb=>?_⟩,q⟩
  obtain ⟨o1,e1⟩:=I.base.there b o e' (fun z=>nomatch z)
  refine el b o1 e1 fun z=>?_
  rcases List.mem_cons.mp (I.stkSub b z) with z' | z'
  · rw [z'] at e'
    exact absurd (Heap.lt_size e') (Nat.lt_irrefl _)
  · exact nb z'
theorem own_cx:PassesOwn (model P w) (cxOf (CXE P w) P w K mg base N qual scope f cd A outer s H E).A (cxOf (CXE P w) P w K mg base N qual scope f cd A outer s H E).env (cxOf (CXE P w) P w K mg base N qual scope f cd A outer s H E).xe :=
  PassesOwn.leaving
end
def Rais (X:Cx) (E:XK):Prop:=∀ (pins:List (Addr × Obj)) (σ:St) (H:Hp) (s:Shared) (h1:Heap) (e:Addr) (cls:Value) (vs:List Value),Inv X pins σ H s→Heap.MadeExcOf s.heap h1 e cls vs→E cls none H→X.xe (.ref e) { s with heap:=h1 }
theorem own_obj {K:PySem.W.Frag} {h:Heap} {C:Addr} {bmB:List Value} {newId:String} (X:K.In h) (q:PySem.W.excIn K C bmB newId=true) :
    ∃ bm N nm q bs hdct sn sub ab col dd k0 k1 k2 k3 k5 mN,h.get? C=some (excClassObj nm q C N bs bm hdct sn sub ab col dd k0 k1 k2 k3 k5 newId)∧h.Ns N mN∧mN "__init__"=none∧OwnTail h bmB bm:=by
  unfold PySem.W.excIn at q
  split at q
  · rename_i dd cd sl ho
    split at q
    · rename_i C' bm k0 k1 k2 k3 n k5 hm hs
      simp only [Bool.and_eq_true,beq_iff_eq,Bool.not_eq_true'] at q
      obtain ⟨⟨⟨⟨⟨rfl,rfl⟩,hdel⟩,ht⟩,hok⟩,hni⟩:=q
      obtain ⟨nm,bs,mro,ns,qn,hd,sn,sub,ab,col,del⟩:=cd
      dsimp only at hm hdel hok hni
      subst hm hdel
      have hsl:sl=#[k0,k1,k2,k3,some (.builtin n),k5]:=by
        obtain ⟨l⟩:=sl
        simp only at hs
        rw [hs]
      subst hsl
      exact ⟨bm,ns,nm,qn,bs,hd,sn,sub,ab,col,dd,k0,k1,k2,k3,k5,_,X _ _ ho,.of_isNs (PySem.W.isNs_of_in X hok),PySem.W.nsMap_none_of_in X hok hni,PySem.W.tail_of_in X ht⟩
    · cases q
  · cases q
abbrev bmV:List Value:=[.type "ValueError",.type "Exception",.type "BaseException",.type "object"]
structure ExC (K:PySem.W.Frag) (mg:Str→Option Value) (x:Str) (C:Addr):Prop where
  mg:mg x=some (.ref C)
  ok:PySem.W.excIn K C bmV "ValueError.__new__"=true
def tRaise (C:Addr) (E:XK) (t:TA):TS:=fun _ σ H=>t σ H fun vs H1=>vs.length≤sizeLine∧E (.ref C) none H1
section
variable {X : Cx} {x : Str} {C : Addr} {E : XK} {e : Expr} {es : List Expr} {t : TA} {np cpos pos : Pos}
theorem ps_raise (hX:ExC X.K X.mg x C) (hc:X.calm=true) (hg:Gl X x) (hr:Rais X E) (ha:PA X (e :: es) t) (hd:(x == ("__debug__":Str))=false:=by decide)
    (he:starEach (e :: es) X.env=(false,eval e X.env) :: starEach es X.env:=by rfl) (hpl:(backTo cpos (starEach es X.env)).any (·.1)=false:=by rfl) :
    PS X (.Raise (some (.Call (.Name x np) (e :: es) [] cpos)) none pos) (tRaise C E t):=by
  intro pins s σ H D I h
  obtain ⟨tl,N,nm,q,bs,hdct,sn,sub,ab,col,dd,k0,k1,k2,k3,k5,mN,hC,hN,hni,T⟩:=own_obj I.mod.kin hX.ok
  refine wpAny_Raise_call_subT (C:=C) (nm:=nm) (q:=q) (N:=N) (bs:=bs) (bm:=tl) (hdct:=hdct) (sn:=sn) (sub:=sub) (ab:=ab) (col:=col) (dd:=dd) (k0:=k0) (k1:=k1) (k2:=k2) (k3:=k3) (k5:=k5)
    F.excBase_ValueError (mN:=mN) (T.hasType F.excBase_ValueError.hasBase) (I.ok.hd hc) (by rw [he]; show (false || (backTo cpos (starEach es X.env)).any (·.1))=false; rw [hpl]; rfl) hni (ld_glob I hg hX.mg ⟨rfl,?_⟩ hd)
  have hx:=ha cpos pins s σ H _ I h
  rw [he] at hx ⊢
  refine Calls.evalArgs_plain (thn hx fun us s2 ⟨vs,H2,I2,r,hl,q2⟩=>⟨rfl,?_,I2.bk _ _ hC,hN.keeps I2.bk,T.keeps I2.bk,fun h' e' mx=>hr pins σ H2 s2 h' e' (.ref C) us I2 mx q2⟩)
  show us.length≤sizeLine
  rw [← r.length]
  exact hl
end
end L2
namespace L2
open PySem PySem.Spec PyProof.Rows
abbrev Cx.tr (X:Cx) (asg:List Nat) (pn':List (Addr × Obj)) (k:Nat→Option V) (xe':Value→Shared→Prop):Cx :=
  { X with pn:=pn',kn:=fun i=>bif asg.contains i then Option.none else k i,xe:=xe' }
abbrev Cx.hd (X:Cx) (x:Addr) (pn':List (Addr × Obj)) (xe':Value→Shared→Prop):Cx :=
  { X with A:=X.A.mark (some (.ref x)),calm:=false,pn:=pn',kn:=fun _=>Option.none,xe:=xe' }
section
variable {X : Cx} {pins pn' : List (Addr × Obj)} {σ σ' : St} {H : Hp} {s : Shared} {asg : List Nat} {k : Nat → Option V} {xe' : Value → Shared → Prop} {x : Addr}
theorem Cx.Ok.tr (ok:X.Ok):(X.tr asg pn' k xe').Ok :=
  ⟨ok.mod,ok.kind,ok.glob,ok.blt,ok.above,ok.inj,ok.has,ok.cab,ok.hd,ok.frames,ok.stk,ok.exf,ok.bs,ok.bsz,ok.noex,ok.exfs,ok.funs,ok.frf⟩
theorem Inv.tr (I:Inv X pins σ H s):Inv (X.tr asg (X.pn ++ pins) (fun i=>(σ[i]?).join) xe') [] σ H s :=
  ⟨I.ok.tr,I.os,I.bare,I.base,I.loc,I.cell,I.free,I.freeC,fun p hp=>I.pin p (by rw [List.append_nil] at hp; exact hp),I.hok,I.len,fun i v z=>by
    have z':(bif asg.contains i then Option.none else (σ[i]?).join)=some v:=z
    cases q:asg.contains i with
    | true=>rw [q] at z'; cases z'
    | false =>
      rw [q] at z'
      cases q2:σ[i]? with
      | none=>rw [q2] at z'; cases z'
      | some o =>
        rw [q2] at z'
        cases o with
        | none=>cases z'
        | some u=>cases z'; rfl⟩
end
def maskF (asg:List Nat):Nat→St→St
  | _,[]=>[]
  | i,o :: r=>(bif asg.contains i then Option.none else o) :: maskF asg (i + 1) r
def ExcAt (x:Addr) (cls:Value) (h:Heap):Prop:=∃ oe vs,h.get? x=some oe∧oe.cls=cls∧oe.data=.fields vs
structure Landed (X:Cx) (pins:List (Addr × Obj)) (asg:List Nat) (σ:St) (E:XK) (x:Addr) (cls:Value) (H':Hp) (s:Shared):Prop where
  inv:Inv X pins (maskF asg 0 σ) H' s
  new:H' x=none
  at_:ExcAt x cls s.heap
  h0:X.s₀.heap.get? x=none
  hL:x≠X.env.locals
  hC:∀ y c,X.env.cells.lookup y=some c→c≠x
  hp:∀ p∈X.pn ++ pins,p.1≠x
  want:E cls none H'
section
variable {X : Cx} {pins : List (Addr × Obj)} {σ : St} {H : Hp} {s : Shared} {asg : List Nat} {E : XK} {hs : List ExceptHandler} {Q : Flow → Shared → Prop}
end
section
variable {X : Cx} {x : Str} {C : Addr} {E : XK} {body : List Stmt} {b0 : Stmt} {suite : List Stmt} {asg : List Nat} {np hpos pos : Pos} {tb : List (Addr × Obj) → (Nat → Option V) → (Value → Shared → Prop) → TS} {th : Addr → List (Addr × Obj) → TS}
theorem excAt_looks {M:Model} {h:Heap} {x:Addr} {cls:Value} (e:ExcAt x cls h):PySem.W.Looks M h (typeOf (.ref x)) cls:=by
  obtain ⟨oe,vs,h1,h2,_⟩:=e
  exact h2 ▸ (PySem.W.Looks.ld h1).andThen .now
end
end L2
namespace L2
open PySem PySem.Spec PyProof.Rows
structure ExK (K:PySem.W.Frag) (C:Addr):Prop where
  cl:(PySem.W.clsIn K C).isSome=true
  ga:PySem.W.findIn K (.ref C) "__getattribute__"=some (some (.builtin "BaseException.__getattribute__"))
  gn:PySem.W.findIn K (.ref C) "__getattr__"=some none
  kl:PySem.W.findIn K (.ref C) "__class__"=some (some (.builtin "object.__class__"))
  sub:PySem.W.subIn K (.ref C) (.type "BaseException")=some true
  ob:PySem.W.subIn K (.ref C) (.type "object")=some true
section
variable {prog : Program} {w : World} {A : Around} {E : Value → Shared → Prop} {h : Heap} {g : Array GenState} {d : Drawn} {t : Nat} {os : OsState} {a C : Addr} {o : Obj} {K : PySem.W.Frag} {vs : Array Value}
theorem class_get_exc {R:Result→Shared→Prop} (X:K.In h) (k:ExK K C) (hx:h.get? a=some o) (hc:o.cls=.ref C) (hq:R (.ok (.ret (.ref C))) ⟨h,g,d,t,os⟩) :
    codeAny (model prog w) A (.call (.builtin "getset_descriptor.__get__") ⟨[.builtin "object.__class__",.ref a,.ref C],[]⟩) R ⟨h,g,d,t,os⟩:=by
  have hT5:(⟨h,g,d,t,os⟩:Shared).TypeIs (.builtin "object.__class__") "getset_descriptor":=F.typeOf_object_class
  have LS:PySem.W.Looks (model prog w) h (isSubtype (.ref C) (.type (".".intercalate ("object.__class__".cutAt '.').dropLast))) true:=by
    rw [F.owner_object_class]; exact PySem.W.looks_subIn X k.ob
  refine codeAny_call_builtin F.slot_gs_get.plain F.entry_gs_get (F.slot_gs_get.check _ _ _ _ _ _ _ _ hT5 (F.args_gs_get _ _ _) ?_)
  repeat (any_goals (first | assumption | (with_reducible refine wpAny_loadPart_at hx ?_; rw [hc]) | (with_reducible refine wpAny_bind (LS.at ?_)) | (with_reducible refine LS.at ?_) | wp_step))
  refine ⟨Code.quiet_builtin _ (by decide +kernel),codeAny_builtin F.entry_object_class ?_⟩
  repeat (any_goals (first | assumption | (with_reducible refine wpAny_loadPart_at hx ?_; rw [hc]) | wp_step))
end
end L2
namespace L2
open PySem PySem.Spec PyProof.Rows
section
variable {prog : Program} {w : World} {A : Around} {E : Value → Shared → Prop} {h : Heap} {g : Array GenState} {d : Drawn} {t : Nat} {os : OsState} {a C : Addr} {o : Obj} {K : PySem.W.Frag} {vs : Array Value}
theorem class_entry_exc {tk:Tok} {Q:Fin→Shared→Prop} (X:K.In h) (k:ExK K C) (hx:h.get? a=some o) (hc:o.cls=.ref C) (hq:Q (.done (.ret (.ref C))) ⟨h,g,d,t,os⟩) :
    wpAny (model prog w) A (Builtin.«object.__getattribute__» ⟨[.ref a,.str "__class__" tk],[]⟩) Q E ⟨h,g,d,t,os⟩:=by
  have hT5:(⟨h,g,d,t,os⟩:Shared).TypeIs (.builtin "object.__class__") "getset_descriptor":=F.typeOf_object_class
  have L4:=PySem.W.looks_findIn (M:=model prog w) X k.kl
  have f5:=F.typeOf_object_class
  have f6:=F.slot_gs_get.lookup
  have f7:=F.slot_gs_set.lookup
  repeat (any_goals (first | assumption | (with_reducible refine wpAny_loadPart_at hx ?_; rw [hc]) | (with_reducible refine wpAny_bind (L4.at ?_)) | wp_step))
  refine class_get_exc X k hx hc ?_
  repeat (any_goals (first | assumption | wp_step))
theorem class_check_exc {M:Model} {nameV:Value} {Q:Unit→Shared→Prop} (X:K.In h) (k:ExK K C) (hx:h.get? a=some o) (hc:o.cls=.ref C) (hq:Q () ⟨h,g,d,t,os⟩) :
    wpAny M A (checkBuiltinCall "BaseException.__getattribute__" ⟨[.ref a,nameV],[]⟩) Q E ⟨h,g,d,t,os⟩:=by
  have hk:builtinKind "BaseException.__getattribute__"=some .slot:=by decide +kernel
  have hsplit:splitId "BaseException.__getattribute__"=some ("BaseException","__getattribute__"):=by decide +kernel
  have LS:=PySem.W.looks_subIn (M:=M) X k.sub
  have ha:=F.args_bexc_ga (.ref a) nameV
  simp only [checkBuiltinCall,hk,hsplit]
  refine wpAny_bind ?_
  · unfold isInstance
    repeat (first | (with_reducible refine wpAny_loadPart_at hx ?_; rw [hc]) | (with_reducible refine wpAny_bind (LS.at ?_)) | (with_reducible refine LS.at ?_) | wp_step)
    exact hq
theorem class_call_exc {tk:Tok} {R:Result→Shared→Prop} (X:K.In h) (k:ExK K C) (hx:h.get? a=some o) (hc:o.cls=.ref C) (hq:R (.ok (.ret (.ref C))) ⟨h,g,d,t,os⟩) :
    codeAny (model prog w) A (.call (.builtin "BaseException.__getattribute__") ⟨[.ref a,.str "__class__" tk],[]⟩) R ⟨h,g,d,t,os⟩ :=
  codeAny_call_builtin F.attr_ValueError.ga.plain F.entry_bexc_ga (class_check_exc X k hx hc (class_entry_exc X k hx hc hq))
theorem class_by_exc {tk:Tok} {Q:Value→Shared→Prop} (X:K.In h) (k:ExK K C) (hx:h.get? a=some o) (hc:o.cls=.ref C) (hq:Q (.ref C) ⟨h,g,d,t,os⟩) :
    wpAny (model prog w) A (getAttrBy (.ref a) (.str "__class__" tk) false) Q E ⟨h,g,d,t,os⟩:=by
  have f3:=F.attr_ValueError.ga.bind (.ref a)
  have L1:=PySem.W.looks_findIn (M:=model prog w) X k.ga
  have L2:=PySem.W.looks_findIn (M:=model prog w) X k.gn
  have hx2:(Value.builtin "BaseException.__getattribute__" == Value.builtin "object.__getattribute__")=false:=by decide +kernel
  have hx1:(onTheHeap (Value.ref C) && Value.builtin "BaseException.__getattribute__" == Value.builtin "object.__getattribute__")=false:=by rw [hx2]; rfl
  repeat (any_goals (first | assumption | (with_reducible refine wpAny_loadPart_at hx ?_; rw [hc]) | (with_reducible refine wpAny_bind (L1.at ?_)) | (with_reducible refine wpAny_bind (L2.at ?_)) | wp_step))
  refine class_call_exc X k hx hc ?_
  repeat (any_goals (first | assumption | wp_step))
theorem class_attr_exc {Q:Option Value→Shared→Prop} (X:K.In h) (k:ExK K C) (hx:h.get? a=some o) (hc:o.cls=.ref C) (hq:Q (some (.ref C)) ⟨h,g,d,t + 1,os⟩) :
    wpAny (model prog w) A (getAttr? (.ref a) "__class__") Q E ⟨h,g,d,t,os⟩:=by
  unfold getAttr? getAttrBy?
  repeat (any_goals (first | assumption | with_reducible apply class_by_exc X k hx hc | wp_step))
end
theorem kitx_exc {K:PySem.W.Frag} {a C:Addr} (k:ExK K C):PySem.W.KitX K (.ref a) (.ref C) (ExcAt a (.ref C)) where
  ty:=fun _ _ _ e=>excAt_looks e
  it:=fun _ _ X _=>by
    have hcD:=k.cl
    unfold PySem.W.clsIn at hcD
    split at hcD
    · rename_i c' d' cd' sl' ho
      intro A' Q' E' s' kk q
      unfold isType loadHead
      exact wpAny_bind (wpAny_loadPart (kk _ _ (X _ _ ho)) (wpAny_pure q))
    · cases hcD
  ne:=fun h tp dd its n sl X htp=>by
    have hcD:=k.cl
    refine Bool.eq_false_iff.mpr fun q=>?_
    have e:C=tp:=Value.ref.inj (beq_iff_eq.mp q)
    subst e
    unfold PySem.W.clsIn at hcD
    split at hcD
    · rename_i c' d' cd' sl' ho
      have z:=(X _ _ ho).symm.trans htp
      cases z
    · cases hcD
  ca:=fun {_ _ _ _ _ s} X e q=>by
    obtain ⟨oe,vs,h1,h2,_⟩:=e
    obtain ⟨h,g,d,t,os⟩:=s
    exact class_attr_exc X k h1 h2 q
inductive TyX (K:PySem.W.Frag) (H:Hp):V→Value→Prop where
  | of {x:V} {t:Value} (e:TyOf K H x t):TyX K H x t
  | exc {a C:Addr} (e:H a=some (.ext (ExcAt a (.ref C)))) (k:ExK K C):TyX K H (.ref a) (.ref C)
def clsV:V→Option Value
  | .ty n=>some (.type n)
  | .ref a=>some (.ref a)
  | _=>none
theorem clsV_rel {v:V} {c u:Value} (e:clsV v=some c) (r:RelV v u):u=c:=by
  cases v <;> cases e <;> exact r
theorem call_isinst {X:Cx}:CallR X (.builtin "isinstance") (fun xs H Q=>∃ x cv c t b,xs=[x,cv]∧clsV cv=some c∧TyX X.K H x t∧PySem.W.kitOne X.K t c=some b∧Q (.bl b) H):=by
  intro pins s σ H xs us Q I r h
  obtain ⟨x,cv,c,t,b,rfl,ec,ty,ek,q⟩:=h
  obtain ⟨u,u2,rfl,rx,rc⟩:=vals2 r
  obtain rfl:=clsV_rel ec rc
  cases ty with
  | of ty=>exact isinst_ok I rx ty ek fun tk=>⟨.bl b,H,I.tok tk,rfl,q⟩
  | @exc a C e k =>
    cases (show u=Value.ref a from rx)
    obtain ⟨ea,_,_⟩:=(show ObjOk X.prog X.w H s.heap a (.ext (ExcAt a (.ref C))) from I.hok a _ e)
    exact PySem.W.kia_one (kitx_exc k) I.kIn ea ek (fun z=>nomatch z) fun tk=>⟨.bl b,H,I.tok tk,rfl,q⟩
def CDivX (i j:Int):Prop:=0 < j∧j.natAbs.log2 < 9000
section
variable {X : Cx}
theorem op_fdivX:OpR X (binaryOp .FloorDiv) (rI CDivX fun i j=>.int (i / j)):=opI fun i j _ _ _ _ _ hc q=>by
  refine floordiv_int (by have:=hc.1; omega) ?_ (.inl (PyProof.noPylong_of_log2 hc.2))
  rw [Int.fdiv_eq_ediv_of_nonneg _ (by have:=hc.1; omega)]
  exact q
theorem op_mulX:OpR X (binaryOp .Mult) (rI IntMulOk fun i j=>.int (i * j)):=opI fun i j _ _ _ _ _ hc q=>mul_int q hc
def eqVs:List V→List V→Bool
  | [],[]=>true
  | x :: xs,y :: ys=>eqV x y && eqVs xs ys
  | _,_=>false
theorem eqVs_range:∀ (xs ys:List V),((List.range (min xs.length ys.length)).all (fun j=>eqV (xs.getD j .non) (ys.getD j .non)) && xs.length == ys.length)=eqVs xs ys
  | [],[]=>rfl
  | [],_ :: _=>by simp [eqVs]
  | _ :: _,[]=>by simp [eqVs]
  | x :: xs,y :: ys=>by
    have ih:=eqVs_range xs ys
    simp only [List.length_cons,Nat.add_min_add_right,List.range_succ_eq_map,List.all_cons,List.all_map,List.getD_cons_zero,eqVs]
    rw [← ih]
    simp only [Function.comp_def,List.getD_cons_succ,Bool.and_assoc]
    congr 2
    simp
def rEqT (K:PySem.W.Frag):R2:=fun x y H Q=>∃ a b xs ys,x=.ref a∧y=.ref b∧SqT K H a xs∧SqT K H b ys∧xs.all flatV=true∧ys.all flatV=true∧Q (.bl (eqVs xs ys)) H
theorem eqT_items {A:Around} {s:Shared} {xs ys:List V} {us ws:List Value} (r:Vals xs us) (q:Vals ys ws) (fx:xs.all flatV=true) (fy:ys.all flatV=true) :
    ∀ j (h1:j < us.toArray.size) (h2:j < ws.toArray.size),SeqAt.EqAt A s us.toArray[j] ws.toArray[j] (eqV (xs.getD j .non) (ys.getD j .non)):=fun j h1 h2=>by
  have l1:=r.length
  have l2:=q.length
  have h1':j < us.length:=by simpa using h1
  have h2':j < ws.length:=by simpa using h2
  have e1:xs[j]?=some (xs[j]'(by omega)):=List.getElem?_eq_getElem (by omega)
  have e2:ys[j]?=some (ys[j]'(by omega)):=List.getElem?_eq_getElem (by omega)
  obtain ⟨u,eu,ru⟩:=r.get e1
  obtain ⟨v,ev,rv⟩:=q.get e2
  have eu':us.toArray[j]=u:=by
    rw [List.getElem?_eq_getElem h1'] at eu
    simpa using Option.some.inj eu
  have ev':ws.toArray[j]=v:=by
    rw [List.getElem?_eq_getElem h2'] at ev
    simpa using Option.some.inj ev
  rw [eu',ev',List.getD_eq_getElem?_getD,List.getD_eq_getElem?_getD,e1,e2]
  exact eqAt_V ru rv (List.all_eq_true.mp fx _ (List.getElem_mem _)) (List.all_eq_true.mp fy _ (List.getElem_mem _))
theorem op_eqT (hu:X.A.units < cLine):OpR X (compareOp .Eq) (rEqT X.K):=by
  intro pins s σ H x y v u Q I rx ry h
  obtain ⟨a,b,xs,ys,rfl,rfl,ha,hb,fx,fy,q⟩:=h
  cases rx
  cases ry
  obtain ⟨us,r,pa,_⟩:=I.tuple ha
  obtain ⟨ws,r2,pb,_⟩:=I.tuple hb
  refine SeqAt.eq_tupleAt pa pb hu (eqT_items r r2 fx fy) ⟨.bl _,H,I,rfl,?_⟩
  rw [show us.toArray.size=xs.length by rw [r.length]; simp,show ws.toArray.size=ys.length by rw [r2.length]; simp,eqVs_range]
  exact q
end
section
variable {X : Cx} {e : Expr} {te : TE} {pos p3 p4 : Pos} {c : Str} {k : Nat}
def tFstr (c:Str) (te:TE):TE:=fun σ H Q=>c.length≤1000∧te σ H fun x H1=>∃ i,x=.int i∧i.natAbs.log2 < 1920∧∀ z:Str,Q (.str z) H1
theorem line4000 {n:Nat} (h:n≤4000):n≤sizeLine:=by rw [sizeLine_eq]; omega
theorem pe_fstr2 (he:PE X e te):PE X (.JoinedStr [.Constant (.str c) k p3,.FormattedValue e (-1) none p4] pos) (tFstr c te):=by
  intro pins s σ H Q I h
  obtain ⟨hc,h⟩:=h
  have z0:Str.empty.length=0:=rfl
  refine JoinedStr_many (joinParts_cons (Calls.Constant_str ?_))
  have I0:Inv X pins σ H { s with toks:=s.toks + 1 }:=I.tok _
  refine ⟨line4000 (by rw [strLen_append,z0]; omega),joinParts_cons (FormattedValue_plain (thn (he pins _ σ H _ I0 h) fun u s1 ⟨x,H1,I1,rx,i,ex,hi,q⟩=>?_))⟩
  subst ex
  obtain ⟨t,rfl⟩:=rx
  refine formatField_int_small hi ?_
  have hl:=int_text_length_le (k:=1920) (by decide) hi
  have hz:(Str.empty ++ c ++ Str.ofString (toString i)).length≤sizeLine:=line4000 (by rw [strLen_append,strLen_append,PySem.ofString_length,z0]; omega)
  exact ⟨hz,joinParts_nil ⟨.str _,H1,I1.tok _,⟨_,rfl⟩,q _⟩ hz⟩
end
end L2
namespace L2
open PySem PySem.Spec PyProof.Rows
structure Dn (P:Program) (w:World) (K:PySem.W.Frag) (mg:Str→Option Value) (base:Heap) (k:Nat) (x:Str) (ps:List Str) (sp:Sp):Prop where
  ex:∃ f fd,mg x=some (.ref f)∧PySem.W.keepIn K (.ref f)=true∧Binds K fd ps []∧FnOk P w K mg base (CXE P w) k f fd ps sp
structure Mth (P:Program) (w:World) (K:PySem.W.Frag) (mg:Str→Option Value) (base:Heap) (k:Nat) {ι:Type} (cl:ι→Addr) (m:Str) (ps:List Str) (sp:ι→Sp):Prop where
  ex:∀ i,Cls K (cl i)∧∃ f fd,Meth K (cl i) m f∧Binds K fd ps []∧FnOk P w K mg base (CXE P w) k f fd ps (sp i)
structure Mkr (P:Program) (w:World) (K:PySem.W.Frag) (mg:Str→Option Value) (base:Heap) (k:Nat) (x:Str) (C:Addr) (ps:List Str) (sp:Sp):Prop where
  mgx:mg x=some (.ref C)
  ex:∃ f fd,Mk K C f∧Binds K fd ps []∧FnOk P w K mg base (CXE P w) k f fd ps sp
structure Mk0 (K:PySem.W.Frag) (mg:Str→Option Value) (x:Str) (C:Addr):Prop where
  mgx:mg x=some (.ref C)
  makes:PySem.W.makesIn K C=true
  init:PySem.W.findIn K (.ref C) "__init__"=some (some (.builtin "object.__init__"))
  kp:PySem.W.keepIn K (.ref C)=true
theorem passE0 {P:Program} {w:World} {X:Cx}:Passes (CXE P w) X E0:=fun _ _ _ _ _ _ _ ⟨_,_,_,_,_,_,_,_,_,q⟩=>q.elim
section
variable {X : Cx} {k : Nat} {C : Addr} {ι : Type} {cl : ι → Addr} {ps : List Str} {sp : Sp} {spi : ι → Sp} {E : XK} {x m : Str} {p pos apos : Pos} {e o : Expr} {es : List Expr} {ta : TE} {t : TA}
def tCallD (sp:Sp) (E:XK) (t:TA):TE:=fun σ H Q=>t σ H fun vs H1=>sp vs H1 Q E
theorem pe_callD (D:Dn X.prog X.w X.K X.mg X.base k x ps sp) (hr:Room k X.A) (hg:Gl X x) (hx:Passes (CXE X.prog X.w) X E) (ha:PA X (e :: es) t) (hdb:(x == ("__debug__":Str))=false:=by decide)
    (he:starEach (e :: es) X.env=(false,eval e X.env) :: starEach es X.env:=by rfl) (hpl:(backTo pos (starEach es X.env)).any (·.1)=false:=by rfl):PE X (.Call (.Name x p) (e :: es) [] pos) (tCallD sp E t):=by
  obtain ⟨f,fd,hm,hk,hb,F⟩:=D.ex
  have z:=pe_call (p:=p) (pos:=pos) F hr hg hm hk hb .nil hx ha hdb he hpl
  unfold tCall at z
  simp only [List.append_nil] at z
  exact z
def tMethV {ι:Type} (cl:ι→Addr) (m:Str) (sp:ι→Sp) (E:XK) (ta:TE) (t:TA):TE:=fun σ H Q=>ta σ H fun x H1=>∃ i a dx fs,x=.ref a∧H1 a=some (.ins (cl i) dx fs)∧fs.lookup m=none∧t σ H1 fun vs H2=>sp i (x :: vs) H2 Q E
theorem pe_methV {pl:Sem Bool} (he:PE X o ta) (V:Mth X.prog X.w X.K X.mg X.base k cl m ps spi) (hr:Room k X.A) (hx:Passes (CXE X.prog X.w) X E) (ha:PA X (e :: es) t)
    (hst:starEach (e :: es) X.env=(false,eval e X.env) :: starEach es X.env:=by rfl) (hpl:(backTo pos (starEach es X.env)).any (·.1)=false:=by rfl)
    (ht:eval (.Call (.Attribute o m apos) (e :: es) [] pos) X.env=(do
      let ov ← eval o X.env
      standAt apos.atName
      let (f,first) ← holding [ov] (getMethod ov m pl)
      callWith pos f first (backTo pos (starEach (e :: es) X.env)) (backToKw pos (keywordEach [] X.env))):=by rfl) :
    PE X (.Call (.Attribute o m apos) (e :: es) [] pos) (tMethV cl m spi E ta t):=by
  intro pins s σ H Q I h
  refine PySem.W.methodCall_KW (pl:=pl) (thn (he pins s σ H _ I h) fun u s1 ⟨x,H1,I1,rx,i,a,dx,fs,ex,ea,l,q⟩=>?_) ht
  subst ex
  obtain rfl:u=Value.ref a:=rx
  obtain ⟨c,f,fd,hm,hb,F⟩:=V.ex i
  refine getmeth_ok I1 ea c hm l ?_
  refine PySem.W.callWith_K (first:=[.ref a]) (h₀:=X.base) I.ok.mod.kin hm.kp (thn (ha pos pins s1 σ H1 _ I1 q) fun us s2 ⟨vs,H2,I2,r,q2⟩=>⟨I2.kIn,?_⟩) hst hpl
  exact run_fn (us:=.ref a :: us) (vs:=.ref a :: vs) (dvs:=[]) F hr hb .nil hx I2 (.cons rfl r) (by rw [List.append_nil]; exact q2)
theorem pe_methV0 {pl:Sem Bool} (he:PE X o ta) (V:Mth X.prog X.w X.K X.mg X.base k cl m ps spi) (hr:Room k X.A) (hx:Passes (CXE X.prog X.w) X E)
    (ht:eval (.Call (.Attribute o m apos) [] [] pos) X.env=(do
      let ov ← eval o X.env
      standAt apos.atName
      let (f,first) ← holding [ov] (getMethod ov m pl)
      callWith pos f first (backTo pos (starEach [] X.env)) (backToKw pos (keywordEach [] X.env))):=by rfl) :
    PE X (.Call (.Attribute o m apos) [] [] pos) (tMethV cl m spi E ta tNil):=by
  intro pins s σ H Q I h
  refine PySem.W.methodCall_KW (pl:=pl) (thn (he pins s σ H _ I h) fun u s1 ⟨x,H1,I1,rx,i,a,dx,fs,ex,ea,l,q⟩=>?_) ht
  subst ex
  obtain rfl:u=Value.ref a:=rx
  obtain ⟨c,f,fd,hm,hb,F⟩:=V.ex i
  refine getmeth_ok I1 ea c hm l ?_
  exact PySem.W.callWith_K0 (first:=[.ref a]) I1.kIn hm.kp (run_fn (us:=[.ref a]) (vs:=[.ref a]) (dvs:=[]) F hr hb .nil hx I1 (.cons rfl .nil) q)
def tMakeD (C:Addr) (sp:Sp) (E:XK) (t:TA):TE:=fun σ H Q=>t σ H fun vs H1=>∀ x dx,H1 x=none→H1 dx=none→dx≠x →
  sp (.ref x :: vs) (upd (upd H1 dx (.own x)) x (.ins C dx [])) (fun v H2=>v=.non∧Q (.ref x) H2) E
theorem pe_makeD (M:Mkr X.prog X.w X.K X.mg X.base k x C ps sp) (hr:Room (k + 1) X.A) (hg:Gl X x) (hx:Passes (CXE X.prog X.w) X E) (ha:PA X (e :: es) t) (hdb:(x == ("__debug__":Str))=false:=by decide)
    (he:starEach (e :: es) X.env=(false,eval e X.env) :: starEach es X.env:=by rfl) (hpl:(backTo pos (starEach es X.env)).any (·.1)=false:=by rfl):PE X (.Call (.Name x p) (e :: es) [] pos) (tMakeD C sp E t):=by
  obtain ⟨f,fd,mk,hb,F⟩:=M.ex
  have z:=pe_make (p:=p) (pos:=pos) mk F hr hg M.mgx hb .nil hx ha hdb he hpl
  unfold tMake at z
  simp only [List.append_nil] at z
  exact z
def tMakeN (C:Addr):TE:=fun _ H Q=>∀ x dx,H x=none→H dx=none→dx≠x→Q (.ref x) (upd (upd H dx (.own x)) x (.ins C dx []))
theorem pe_makeN (M:Mk0 X.K X.mg x C) (hg:Gl X x) (hdb:(x == ("__debug__":Str))=false:=by decide):PE X (.Call (.Name x p) [] [] pos) (tMakeN C):=by
  intro pins s σ H Q I h
  refine wpAny_Call_Name_kw (ld_glob I hg M.mgx ?_ hdb)
  refine PySem.W.callWith_K0 I.kIn M.kp ?_
  have hq:=h (s.heap.objs.size + 1) s.heap.objs.size (I.hok.fresh (Nat.le_succ _)) (I.hok.fresh (Nat.le_refl _)) (Nat.ne_of_lt (Nat.lt_succ_self _))
  have I2:=Inv.made (C:=C) I
  have Y:=PySem.W.makes_of (M:=model X.prog X.w) I.kIn M.makes
  have e2:((s.heap.push PySem.W.emptyDict).push (PySem.W.instObj C s.heap.objs.size)).get? (s.heap.objs.size + 1)=some (PySem.W.instObj C s.heap.objs.size):=by
    have:=Heap.get?_push_size (s.heap.push PySem.W.emptyDict) (o:=PySem.W.instObj C s.heap.objs.size) rfl
    rwa [Heap.size_push] at this
  have t1:PySem.W.Looks (model X.prog X.w) ((s.heap.push PySem.W.emptyDict).push (PySem.W.instObj C s.heap.objs.size)) (typeOf (.ref (s.heap.objs.size + 1))) (.ref C):=(PySem.W.Looks.ld e2).andThen .now
  have t2:PySem.W.Looks (model X.prog X.w) ((s.heap.push PySem.W.emptyDict).push (PySem.W.instObj C s.heap.objs.size)) (isInstance (.ref (s.heap.objs.size + 1)) (.type "object")) true:=t1.andThen (Y.top.keeps fun b o e=>Heap.get?_push_of_some _ (Heap.get?_push_of_some _ e))
  refine wpAny_call (make_map0 I.kIn M.makes M.init (fun self=>PySem.W.Looks.of_pure (PySem.W.oi_bind self)) ?_)
  refine codeAny_call_builtin PySem.W.oi_plain PySem.W.entry_oi (@PySem.W.check_slot (model X.prog X.w) _ _ _ "object.__init__" "object" "__init__" (.ref (s.heap.objs.size + 1)) [] [] _ PySem.W.oi_kind PySem.W.oi_split t2 (PySem.W.oi_args (.ref (s.heap.objs.size + 1))) ?_)
  rw [PySem.W.oi_run]
  exact wpAny_pure (And.intro rfl ⟨.ref (s.heap.objs.size + 1),_,I2,rfl,hq⟩)
end
section
variable {P : Program} {w : World} {K : PySem.W.Frag} {mg : Str → Option Value} {base : Heap}
theorem Fun.okX {x qual:Str} {st:Stmt} {f:Addr} {fd:FuncData} {N ps:List Str} {k:Nat} {sp:Sp} (F:Fun K x qual st f fd) (S:FnScope N ps (defScope st)) (len:∀ vs H Q E,sp vs H Q E→vs.length=ps.length)
    (hbody:∀ (cdv:Value) (A:Around) (outer:List Env) (s:Shared) (H:Hp) (vs:List V) (Q:VK) (E:XK),Room k (A.deeper (envOfC qual (defScope st) s.heap.objs.size f cdv))→sp vs H Q E →
      ∃ t,PSs (cxOf (CXE P w) P w K mg base N qual (defScope st) f cdv A outer s H E) (defBody st) t∧t { nx:=fun _ H'=>Q .non H',rt:=Q } (start N vs) H):FnOk P w K mg base (CXE P w) (k + 1) f fd ps sp:=by
  obtain ⟨oc,od,kV,doc,pm,an,cdv,ct,osl,rfl,lk,hcd⟩:=F.ex
  exact fn_of lk hcd S len fun A outer s H vs Q E hr hsp=>hbody cdv A outer s H vs Q E hr hsp
theorem Fun.okN {x qual:Str} {st:Stmt} {f:Addr} {fd:FuncData} {N ps:List Str} {k:Nat} {sp:Sp} (F:Fun K x qual st f fd) (S:FnScope N ps (defScope st)) (len:∀ vs H Q E,sp vs H Q E→vs.length=ps.length)
    (hbody:∀ (cdv:Value) (A:Around) (outer:List Env) (s:Shared) (H:Hp) (vs:List V) (Q:VK) (E:XK),Room k (A.deeper (envOfC qual (defScope st) s.heap.objs.size f cdv))→sp vs H Q E →
      ∃ t,PSs (cxOf (CXE P w) P w K mg base N qual (defScope st) f cdv A outer s H E).nox (defBody st) t∧t { nx:=fun _ H'=>Q .non H',rt:=Q } (start N vs) H):FnOk P w K mg base (CXE P w) (k + 1) f fd ps sp :=
  F.okX S len fun cdv A outer s H vs Q E hr hsp=>let ⟨t,h,q⟩:=hbody cdv A outer s H vs Q E hr hsp; ⟨t,h.nox,q⟩
structure DefAt (K:PySem.W.Frag) (mg:Str→Option Value) (x:Str) (st:Stmt):Prop where
  ex:∃ f fd,mg x=some (.ref f)∧Fun K x x st f fd
structure MthAt (K:PySem.W.Frag) (C:Addr) (m qual:Str) (st:Stmt):Prop where
  ex:∃ f fd,PySem.W.findIn K (.ref C) m=some (some (.ref f))∧PySem.W.isFn K (.ref f)=true∧Fun K m qual st f fd
theorem defAt_mk {x:Str} {st:Stmt} {f:Addr} {h:Heap} {oc:Value} {od an:Option Addr} {osl:Array (Option Value)} {kV doc pm cdv ct:Value} (X:K.In h) (G:h.Ns mainGlobals mg) (a:PySem.W.nsIn K mainGlobals x=some (some (.ref f)))
    (l:K.lookup f=some ⟨oc,od,.func (PySem.W.fnOf x x (defArgs st) (defBody st) (defScope st) .none kV doc pm an cdv ct),osl⟩)
    (c:PySem.W.codeIn K cdv x=true) (k:PySem.W.keepIn K (.ref f)=true):DefAt K mg x st:=⟨f,_,PySem.W.mg_of X G a,fun_mk l c k⟩
theorem mthAt_mk {C:Addr} {m qual:Str} {st:Stmt} {f:Addr} {oc:Value} {od an:Option Addr} {osl:Array (Option Value)} {kV doc pm cdv ct:Value} (a:PySem.W.findIn K (.ref C) m=some (some (.ref f))) (i:PySem.W.isFn K (.ref f)=true)
    (l:K.lookup f=some ⟨oc,od,.func (PySem.W.fnOf m qual (defArgs st) (defBody st) (defScope st) .none kV doc pm an cdv ct),osl⟩)
    (c:PySem.W.codeIn K cdv qual=true) (k:PySem.W.keepIn K (.ref f)=true):MthAt K C m qual st:=⟨f,_,a,i,fun_mk l c k⟩
end
end L2
namespace L2
open PySem
theorem bt_len:bootBuiltins "len"=some (.builtin "len"):=by decide +kernel
theorem bt_min:bootBuiltins "min"=some (.builtin "min"):=by decide +kernel
theorem bt_max:bootBuiltins "max"=some (.builtin "max"):=by decide +kernel
theorem bt_isinstance:bootBuiltins "isinstance"=some (.builtin "isinstance"):=by decide +kernel
theorem bt_int:bootBuiltins "int"=some (.type "int"):=by decide +kernel
theorem bt_bool:bootBuiltins "bool"=some (.type "bool"):=by decide +kernel
theorem bt_tuple:bootBuiltins "tuple"=some (.type "tuple"):=by decide +kernel
theorem bt_list:bootBuiltins "list"=some (.type "list"):=by decide +kernel
end L2
namespace L2
theorem iteEqI {i j:Int} {A B:Prop} (h1:i=j→A) (h2:i≠j→B):if decide (V.int i=V.int j)=true then A else B :=
  ite2 (fun c=>h1 (V.int.inj (of_decide_eq_true c))) (fun c=>h2 fun z=>c (decide_eq_true (congrArg V.int z)))
theorem iteNeI {i j:Int} {A B:Prop} (h1:i≠j→A) (h2:i=j→B):if (!decide (V.int i=V.int j))=true then A else B:=by
  by_cases h:i=j
  · rw [decide_eq_true (congrArg V.int h)]; exact iteF (h2 h)
  · rw [decide_eq_false (fun z=>h (V.int.inj z))]; exact iteT (h1 h)
theorem iteD {c A B:Prop} [Decidable c] (h1:c→A) (h2:¬ c→B):if decide c=true then A else B :=
  ite2 (fun z=>h1 (of_decide_eq_true z)) (fun z=>h2 fun y=>z (decide_eq_true y))
theorem iteB {b:Bool} {A B:Prop} (h1:b=true→A) (h2:b=false→B):if b=true then A else B:=by
  cases b with
  | true=>exact iteT (h1 rfl)
  | false=>exact iteF (h2 rfl)
theorem same_one {H:Hp} {x:PySem.Addr} {o:HO} (h:H x=Option.none):Same H (upd H x o):=fun b u e=>by rw [upd_ne (ne_of_none e h)]; exact e
theorem same_two {H:Hp} {x dx:PySem.Addr} {o u:HO} (h:H x=Option.none) (h2:H dx=Option.none):Same H (upd (upd H dx u) x o):=fun b v e=>by rw [upd_ne (ne_of_none e h),upd_ne (ne_of_none e h2)]; exact e
theorem Same.tup {K:PySem.W.Frag} {H H':Hp} {a:PySem.Addr} {xs:List V} (e:Same H H') (h:SqT K H a xs):SqT K H' a xs:=by
  rcases h with (h | ⟨o,h⟩) | h
  · exact .inl (.inl (e _ _ h))
  · exact .inl (.inr ⟨o,e _ _ h⟩)
  · exact .inr h
end L2
namespace L2
end L2
namespace L2
open PySem
section
variable {X : Cx} {es : List Expr} {env : Env}
theorem st_Constant {c j p}:starEach (.Constant c j p :: es) env=(false,eval (.Constant c j p) env) :: starEach es env:=by rfl
theorem st_Name {c p}:starEach (.Name c p :: es) env=(false,eval (.Name c p) env) :: starEach es env:=by rfl
theorem st_BinOp {a o b p}:starEach (.BinOp a o b p :: es) env=(false,eval (.BinOp a o b p) env) :: starEach es env:=by rfl
theorem st_UnaryOp {o b p}:starEach (.UnaryOp o b p :: es) env=(false,eval (.UnaryOp o b p) env) :: starEach es env:=by rfl
theorem st_Call {a o b p}:starEach (.Call a o b p :: es) env=(false,eval (.Call a o b p) env) :: starEach es env:=by rfl
theorem st_Tuple {a o p}:starEach (.Tuple a o p :: es) env=(false,eval (.Tuple a o p) env) :: starEach es env:=by rfl
theorem st_Subscript {a b p}:starEach (.Subscript a b p :: es) env=(false,eval (.Subscript a b p) env) :: starEach es env:=by rfl
theorem st_Attribute {a b p}:starEach (.Attribute a b p :: es) env=(false,eval (.Attribute a b p) env) :: starEach es env:=by rfl
theorem st_JoinedStr {a p}:starEach (.JoinedStr a p :: es) env=(false,eval (.JoinedStr a p) env) :: starEach es env:=by rfl
end
end L2
namespace L2
theorem t_or_eq {σ:St} {H:Hp} {i:Nat} {x j k:Int} {A B:Hp→Prop} (e:σ[i]?=some (some (.int x))) (h1:x=j∨x=k→A H) (h2:¬ (x=j∨x=k)→B H) :
    tOr (tTest (tOp rEq (tVar i) (tC (.int j)))) (tTest (tOp rEq (tVar i) (tC (.int k)))) σ H (fun c H1=>if c=true then A H1 else B H1) :=
  ⟨_,e,rfl,_,rfl,iteEqI (fun z=>iteT (h1 (.inl z))) (fun z=>⟨_,e,rfl,_,rfl,iteEqI (fun y=>h1 (.inr y)) (fun y=>h2 fun u=>u.elim z y)⟩)⟩
end L2
namespace L2
open PySem PySem.Spec PyProof.Rows
section
variable {X : Cx} {e : Expr} {te : TE} {pos p3 p4 : Pos} {c : Str} {k : Nat}
theorem op_fdivA (ht:X.prog.given.tree=none) (hd:X.A.depth + 100 < recursionLimit) (hst:X.stack=X.env :: X.outer) (hgen:X.env.scope.isGenerator=false) (hco:X.env.scope.isCoroutine=false) :
    OpR X (binaryOp .FloorDiv) (rI (fun _ j=>0 < j) fun i j=>.int (i / j)):=by
  intro pins s σ H x y v u Q I rx ry h
  obtain ⟨i,j,rfl,rfl,hc,q⟩:=h
  obtain ⟨t,rfl⟩:=rx
  obtain ⟨t',rfl⟩:=ry
  have seer:s.heap.NoSeer:=I.ok.mod.seer.keeps I.bk
  refine floordiv_int (by omega) ?_ (.inr (PylongRoom.of I.nolimit hd (SeerAt.of seer ht (by rw [I.ok.frames,hst]) hgen hco I.ok.blt I.ok.glob)))
  rw [Int.fdiv_eq_ediv_of_nonneg _ (by omega)]
  exact ⟨.int (i / j),H,I.tok _,⟨_,rfl⟩,q⟩
end
structure InsK (K:PySem.W.Frag) (C:Addr):Prop where
  ha:PySem.W.findIn K (.ref C) "__class__"=some (some (.builtin "object.__class__"))
  hn:PySem.W.specialIn K (.builtin "object.__class__") "__get__"=some (some (.builtin "getset_descriptor.__get__"))
  htk:PySem.W.takesIn K (.builtin "object.__class__")=some true
  hm:PySem.W.mroIn K C (.type "object")=some true
theorem TyX.ins {K:PySem.W.Frag} {H:Hp} {a C dx:Addr} {fs:List (Str × V)} (e:H a=some (.ins C dx fs)) (cl:Cls K C) (i:InsK K C):TyX K H (.ref a) (.ref C):=.of (.ins e cl i.ha i.hn i.htk i.hm)
end L2
namespace L2
open PySem PySem.Spec PyProof.Rows
section
variable {P : Program} {w : World} {H : Hp} {h h' : Heap} {a : Addr} {o : HO}
theorem HOk.track (x:HOk P w H h) {ch:List Addr} (k:∀ b u,b ∉ ch→h.get? b=some u→h'.get? b=some u) (hch:∀ b∈ch,H b=none) (hn:H a=none) (new:ObjOk P w (upd H a o) h' a o):HOk P w (upd H a o) h':=fun b u e=>by
  by_cases hb:b=a
  · subst hb; rw [upd_same] at e; cases e; exact new
  · rw [upd_ne hb] at e
    refine (x b u e).stay (fun c v hc q=>k c v (fun z=>?_) q) (fun c q=>by rw [upd_ne (ne_of_none q hn)]; exact q) fun c xs q=>by rw [upd_ne (ne_of_none q hn)]; exact q
    have z:=hch c z
    rcases hc with rfl | hc
    · rw [e] at z; cases z
    · rw [hc] at z; cases z
end
def Ite (K:PySem.W.Frag) (a:Addr):It :=
  ⟨fun i H=>∃ xs x,SqL K H a xs∧xs[i]?=some x,fun i H v H'=>∃ p x,v=.ref p∧H p=none∧H'=upd H p (.tup [.int (i:Nat),x])∧∀ xs,SqL K H a xs→xs[i]?=some x,fun i H=>∃ xs,SqL K H a xs∧xs.length≤i⟩
theorem turn_enum {P:Program} {w:World} {K:PySem.W.Frag} {elts:List Expr} {kt:Nat} {pt:Pos} (a e it:Addr) (hne:e≠it):Turn P w K (.Tuple elts kt pt) (Ite K a) [e,it] e (fun i h=>(∃ old,IsEnum h e it (i:Nat) old)∧h.IsListIter it a i) where
  mem:=by simp
  obj:=fun i h st b hb=>by
    obtain ⟨⟨old,st⟩,o,e1,c,d⟩:=st
    rcases List.mem_cons.mp hb with rfl | hb
    · exact ⟨_,st,fun v z=>by
        have z':Data.fields _=Data.cell v:=z
        cases z'⟩
    · have e2:b=it:=by simpa using hb
      subst e2
      exact ⟨o,e1,fun v z=>by rw [d] at z; cases z⟩
  keep:=fun i h h' st k=>⟨let ⟨old,st⟩:=st.1; ⟨old,k e (by simp) _ st⟩,st.2.at fun o q=>k it (by simp) o q⟩
  item:=by
    intro X hP hw hK hc i pins s σ H E I hf st hg
    subst hP hw hK
    obtain ⟨xs,x,hq,hx⟩:=hg
    obtain ⟨its,rv,p,hz⟩:=I.list hq
    obtain ⟨u,hu,ru⟩:=rv.get hx
    obtain ⟨⟨old,st1⟩,st2⟩:=st
    refine wpAny_pyNext_enum_item st1 st2 p.isList (x:=u) (by simpa using hu) hne fun h1 heo hit1 ht1 hz1 hk1=>?_
    refine ⟨_,rfl,wpAny_letOwnedTupleGo_enum heo fun h2 he2 hs2=>?_⟩
    replace hs2:Heap.SameBut e h1 h2:=hs2
    have hp:H s.heap.objs.size=none:=I.hok.fresh (Nat.le_refl _)
    have le:e < s.heap.objs.size:=Heap.lt_size st1
    have ht2:h2.get? s.heap.objs.size=some { cls:=.type "tuple",data:=.seq #[.int i s.toks,u] }:=(hs2.2 _ (Nat.ne_of_gt le)).trans ht1
    have kk:∀ b o,b ∉ [e,it]→s.heap.get? b=some o→h2.get? b=some o:=fun b o hb q=>by
      simp only [List.mem_cons,List.not_mem_nil,or_false,not_or] at hb
      exact hs2.extBut b o hb.1 (hk1 b o hb.1 hb.2 q)
    have nn:∀ b∈[e,it],H b=none:=fun b hb=>(hf b hb).1
    have ok2:HOk X.prog X.w (upd H s.heap.objs.size (.tup [.int (i:Nat),x])) h2:=I.hok.track (ch:=[e,it]) kk nn hp ⟨by show 2≤sizeLine; decide,[.int i s.toks,u],.cons ⟨_,rfl⟩ (.cons ru .nil),_,ht2,rfl,_,rfl⟩
    have there2:∀ b o,s.heap.get? b=some o→∃ o',h2.get? b=some o':=fun b o q=>by
      by_cases hb:b∈[e,it]
      · rcases List.mem_cons.mp hb with rfl | hb
        · exact ⟨_,he2⟩
        · have e2:b=it:=by simpa using hb
          subst e2
          obtain ⟨o1,q1,_⟩:=hit1
          exact ⟨o1,hs2.extBut _ _ (Ne.symm hne) q1⟩
      · exact ⟨o,kk b o hb q⟩
    have I1:Inv X pins σ (upd H s.heap.objs.size (.tup [.int (i:Nat),x])) { s with heap:=h2,toks:=s.toks + 1 }:=by
      refine I.step (g':=s.gens) (d':=s.drawn) (ch:=[e,it]) (fun b hb=>let ⟨_,f1,_,f3,f4,f5⟩:=hf b hb; ⟨f3,f1,f4,f5⟩) (fun b o _ _ hc q _=>kk b o hc q) (fun b o _ _ hc q _=>⟨o.slots,kk b o hc q⟩)
        (fun b o hc q n=>by rw [upd_ne (Nat.ne_of_lt (Heap.lt_size q))]; exact n) (fun b o hc q=>there2 b o q) (fun b xs q=>by rw [upd_ne (ne_of_none q hp)]; exact q) (fun b o u q=>by rw [upd_ne (ne_of_none q hp)]; exact q) (fun b ps q=>⟨#[],by rw [upd_ne (ne_of_none q hp),q]; simp⟩) (fun m hm=>?_) ok2 I.bare
      obtain ⟨o,es,ep,ho,r⟩:=hm
      refine ⟨o,es,ep,kk _ o (fun z=>?_) ho,r⟩
      exact (hf _ z).2.1 rfl
    refine ⟨.ref s.heap.objs.size,_,I1,rfl,⟨_,x,rfl,hp,rfl,fun ys hy=>by rw [I.list_inj hy hq]; exact hx⟩,⟨⟨_,he2⟩,?_⟩,fun b hb=>?_⟩
    · exact hit1.extBut hs2.extBut (Ne.symm hne)
    · rw [upd_ne (fun z=>?_)]
      · exact nn b hb
      · obtain ⟨o1,q1,_⟩:=st2
        have:=Heap.lt_size q1
        rcases List.mem_cons.mp hb with z2 | hb
        · rw [z2] at z; exact Nat.ne_of_lt le z
        · have e2:b=it:=by simpa using hb
          rw [e2] at z; exact Nat.ne_of_lt this z
  done:=by
    intro X hP hw hK hc i pins s σ H E I hf st hg
    subst hP hw hK
    obtain ⟨xs,hq,hx⟩:=hg
    obtain ⟨its,rv,p,hz⟩:=I.list hq
    obtain ⟨f0,f1,f2,f3,f4,f5⟩:=hf it (by simp)
    obtain ⟨⟨old,st1⟩,st2⟩:=st
    have hl:=rv.length
    exact wpAny_pyNext_enum_end (I.ok.hd hc) st1 st2 p.isList (by simp; omega) fun h' eb=>⟨rfl,I.turned (t':=s.toks) (fun b o hb e=>eb b o hb e) f0 f1 f3 f4 f5⟩
  self:=fun _ _ _ _ _ st h=>let ⟨⟨_,st⟩,_⟩:=st; wpAny_pyIter_enum st h
def iEnum (K:PySem.W.Frag) (ta:TA):TI:=fun σ H R=>ta σ H fun vs H1=>∃ a,vs=[.ref a]∧(∃ xs,SqL K H1 a xs)∧R (Ite K a) H1
theorem pi_enum {X:Cx} {elts:List Expr} {kt:Nat} {pt:Pos} {l:Expr} {ta:TA} {p pos:Pos} (hg:Gl X "enumerate") (hm:X.mg "enumerate"=none) (ha:PA X [l] ta) (hs:starEach [l] X.env=[(false,eval l X.env)]:=by rfl) :
    PI X (.Tuple elts kt pt) (.Call (.Name "enumerate" p) [l] [] pos) (iEnum X.K ta):=by
  intro pins s σ H R I h
  refine Call_ (ld_blt I hg hm boot_enumerate (PyProof.Rows.callWith_type1 (thn (ha pos pins s σ H _ I h) fun us s1 ⟨vs,H1,I1,r1,q1⟩=>?_) hs rfl))
  obtain ⟨a,e,⟨xs,hq⟩,q⟩:=q1
  subst e
  cases r1 with
  | cons r rr =>
    cases rr
    cases r
    obtain ⟨its,rv,p,hz⟩:=I1.list hq
    refine call_enumerate_list p.isList fun h' he hit hsz hk=>?_
    refine wpAny_pyIter_enum (s:={ s1 with heap:=h' }) he ?_
    refine ⟨s1.heap.objs.size + 1,[s1.heap.objs.size + 1,s1.heap.objs.size],_,_,H1,rfl,I1.kept (t':=s1.toks) hk,turn_enum a _ _ (Nat.succ_ne_self _),⟨⟨_,he⟩,hit⟩,fun b hb=>?_,q⟩
    have hb:s1.heap.objs.size≤b:=by
      rcases List.mem_cons.mp hb with rfl | hb
      · exact Nat.le_succ _
      · rw [List.mem_singleton.mp hb]; exact Nat.le_refl _
    exact I1.fpOk hb (I1.hok.fresh hb)
theorem for_enum {K:PySem.W.Frag} {a:Addr} {xs:List V} {g:TG} {tb:TS} {D:Ends} {σ:St} {H:Hp} (Pv:Nat→St→Hp→Prop) (h0:Pv 0 σ H) (hl:∀ i σ H,i≤xs.length→Pv i σ H→SqL K H a xs)
    (hs:∀ i x σ H p,xs[i]?=some x→Pv i σ H→H p=none→g (.ref p) σ (upd H p (.tup [.int (i:Nat),x])) fun σ2 H2=>tb { D with nx:=Pv (i + 1),ct:=Pv (i + 1),bk:=D.nx } σ2 H2) (hd:∀ σ H,Pv xs.length σ H→D.nx σ H) :
    ∃ W:Nat→Nat→St→Hp→Prop,(∃ m,W 0 m σ H)∧∀ i m σ H,W i m σ H →
      ((Ite K a).stop i H∧D.nx σ H)∨((Ite K a).go i H∧∃ N:St→Hp→Prop,(∀ σ' H',N σ' H'→∃ m',m' < m∧W (i + 1) m' σ' H')∧∀ x H',(Ite K a).yld i H x H'→g x σ H' fun σ2 H2=>tb { D with nx:=N,ct:=N,bk:=D.nx } σ2 H2):=by
  refine ⟨fun i m σ H=>m=xs.length - i∧i≤xs.length∧Pv i σ H,⟨xs.length,by simp,Nat.zero_le _,h0⟩,?_⟩
  rintro i m σ H ⟨rfl,hi,p⟩
  have q:=hl i σ H hi p
  by_cases hlt:i < xs.length
  · refine .inr ⟨⟨xs,xs[i],q,by simp [hlt]⟩,Pv (i + 1),fun σ' H' p'=>⟨xs.length - (i + 1),by omega,rfl,hlt,p'⟩,fun v H' y=>?_⟩
    obtain ⟨pt,x,rfl,hn,rfl,y⟩:=y
    exact hs i x σ H pt (y xs q) p hn
  · have e:i=xs.length:=by omega
    subst e
    exact .inl ⟨⟨xs,q,Nat.le_refl _⟩,hd σ H p⟩
end L2
namespace L2
open PySem PySem.Spec PyProof.Rows
structure CA where
  cl:List (Str × Addr)
  C:Addr
  s2:Shared
  H2:Hp
  fp:List Addr
  pn:List (Addr × Obj)
def compX (X:Cx) (N':List Str) (scope:Scope) (c:CA):Cx where
  prog:=X.prog
  w:=X.w
  K:=X.K
  mg:=X.mg
  base:=X.base
  A:=X.A
  N:=N'
  s₀:=c.s2
  H₀:=c.H2
  env:=compEnvC scope c.cl c.C X.env
  outer:=X.stack
  stack:=X.stack
  ex:=c.fp
  fn:=fun _=>false
  calm:=true
  pn:=c.pn
  kn:=fun _=>Option.none
  xe:=fun _ _=>False
structure CompScope (N:List Str) (osc:Scope) (k:Nat) (N':List Str) (fr:List Nat) (scope:Scope):Prop where
  kind:scope.kind=.function
  nocell:∀ y∈scope.names,y.2≠.cell
  names:∀ y∈scope.names,y.2=.local→scope.names.lookup y.1=some .local
  free:∀ y∈scope.names,y.2=.free→osc.names.lookup y.1=some .cell∨osc.names.lookup y.1=some .free
  len:N'.length=k + fr.length
  sl:fr.map (fun i=>N[i]?)=(N'.drop k).map some
  fre:∀ x∈N'.drop k,scope.names.lookup x=some .free
def clOf (names:List (Str × NameKind)) (cells:List (Str × Addr)):List (Str × Addr)→List (Str × Addr) :=
  fun acc=>names.foldl (fun acc y=>if y.2 == .free then (match cells.lookup y.1 with | some c=>(y.1,c) :: acc | none=>acc) else acc) acc
theorem closure_of {env:Env}:∀ (names:List (Str × NameKind)) (acc:List (Str × Addr)),(∀ y∈names,y.2=.free→∃ c,env.cells.lookup y.1=some c) →
    (forIn names acc fun x (r:List (Str × Addr))=>(if (x.2 == NameKind.free)=true then (do let a ← cellOf env x.1; pure (ForInStep.yield ((x.1,a) :: r))) else pure (ForInStep.yield r):Sem _))=pure (clOf names env.cells acc)
  | [],acc,_=>rfl
  | (n,k) :: r,acc,h=>by
    rw [List.forIn_cons]
    by_cases hk:k=.free
    · subst hk
      obtain ⟨c,hc⟩:=h (n,.free) List.mem_cons_self rfl
      have ih:=closure_of r ((n,c) :: acc) fun y hy=>h y (List.mem_cons_of_mem _ hy)
      have hco:cellOf env n=pure c:=by simp only [cellOf,hc]
      simp only [beq_self_eq_true,if_true,hco,pure_bind]
      rw [ih]
      simp only [clOf,List.foldl_cons,beq_self_eq_true,if_true,hc]
    · have hb:(k == NameKind.free)=false:=by simpa using hk
      have ih:=closure_of r acc fun y hy=>h y (List.mem_cons_of_mem _ hy)
      simp only [hb,Bool.false_eq_true,if_false,pure_bind]
      rw [ih]
      simp only [clOf,List.foldl_cons,hb,Bool.false_eq_true,if_false]
theorem closureFor_of {scope:Scope} {env:Env} (h:∀ y∈scope.names,y.2=.free→∃ c,env.cells.lookup y.1=some c):closureFor scope env=pure (clOf scope.names env.cells []):=by
  simp only [closureFor]
  have:=closure_of (env:=env) scope.names [] h
  first
  | (rw [this]; rfl)
  | (refine Eq.trans (congrArg (fun t=>t >>= _) this) ?_; rfl)
end L2
namespace L2
open PySem PySem.Spec PyProof.Rows
theorem clOf_lookup {cells:List (Str × Addr)} {x:Str}:∀ (names:List (Str × NameKind)) (acc:List (Str × Addr)),(∀ c,acc.lookup x=some c→cells.lookup x=some c)→∀ c,(clOf names cells acc).lookup x=some c→cells.lookup x=some c
  | [],_,h,c,e=>h c e
  | (n,k) :: r,acc,h,c,e=>by
    unfold clOf at e
    rw [List.foldl_cons] at e
    refine clOf_lookup r _ ?_ c e
    intro c' e'
    dsimp only at e'
    split at e'
    · split at e'
      · rename_i c2 hc2
        rw [List.lookup_cons] at e'
        split at e'
        · rename_i hx
          have:x=n:=by simpa using hx
          rw [this]; rw [← e']; exact hc2
        · exact h c' e'
      · exact h c' e'
    · exact h c' e'
theorem clOf_l0 {cells:List (Str × Addr)} {x:Str} {names:List (Str × NameKind)} {c:Addr} (h:(clOf names cells []).lookup x=some c):cells.lookup x=some c:=clOf_lookup names [] (fun _ z=>by simp at z) c h
theorem clOf_has {cells:List (Str × Addr)} {x:Str} {c:Addr} (hc:cells.lookup x=some c):∀ (names:List (Str × NameKind)) (acc:List (Str × Addr)),((x,NameKind.free)∈names∨(acc.lookup x).isSome=true)→((clOf names cells acc).lookup x).isSome=true
  | [],_,h=>h.elim (fun z=>nomatch z) id
  | (n,k) :: r,acc,h=>by
    unfold clOf
    rw [List.foldl_cons]
    refine clOf_has hc r _ ?_
    dsimp only
    rcases h with h | h
    · rcases List.mem_cons.mp h with e | h
      · cases e
        right
        rw [if_pos (by rfl),hc]
        simp [List.lookup_cons]
      · exact .inl h
    · right
      split
      · split
        · rw [List.lookup_cons]
          split
          · rfl
          · exact h
        · exact h
      · exact h
theorem relabel_free {env:Env}:∀ {names:List (Str × NameKind)} {x:Str},names.lookup x=some .free →
    (names.map fun (n,k)=>if (k == NameKind.free && env.scope.kind == .function && env.kindOf n == some .cell) then (n,NameKind.cell) else (n,k)).lookup x=some .cell ∨
    (names.map fun (n,k)=>if (k == NameKind.free && env.scope.kind == .function && env.kindOf n == some .cell) then (n,NameKind.cell) else (n,k)).lookup x=some .free
  | [],_,h=>by simp at h
  | (n,k) :: r,x,h=>by
    have ih:=@relabel_free env r x
    rw [List.map_cons]
    dsimp only
    cases hx:x == n with
    | true =>
      simp only [List.lookup_cons,hx] at h
      cases h
      split
      · left; simp only [List.lookup_cons,hx]
      · right; simp only [List.lookup_cons,hx]
    | false =>
      simp only [List.lookup_cons,hx] at h
      split
      · simp only [List.lookup_cons,hx]; exact ih h
      · simp only [List.lookup_cons,hx]; exact ih h
theorem relabel_back {env:Env}:∀ {names:List (Str × NameKind)} {x:Str},(∀ y∈names,y.2≠.cell) →
    ((names.map fun (n,k)=>if (k == NameKind.free && env.scope.kind == .function && env.kindOf n == some .cell) then (n,NameKind.cell) else (n,k)).lookup x=some .cell ∨
    (names.map fun (n,k)=>if (k == NameKind.free && env.scope.kind == .function && env.kindOf n == some .cell) then (n,NameKind.cell) else (n,k)).lookup x=some .free)→(x,NameKind.free)∈names
  | [],_,_,h=>by simp at h
  | (n,k) :: r,x,nc,h=>by
    have ih:=@relabel_back env r x fun y hy=>nc y (List.mem_cons_of_mem _ hy)
    rw [List.map_cons] at h
    dsimp only at h
    cases hx:x == n with
    | true =>
      have e:x=n:=by simpa using hx
      subst e
      by_cases hf:k=.free
      · subst hf; exact List.mem_cons_self
      · exfalso
        have hb:(k == NameKind.free)=false:=by simpa using hf
        rw [hb] at h
        simp only [Bool.false_and,Bool.false_eq_true,if_false,List.lookup_cons,beq_self_eq_true] at h
        rcases h with h | h
        · exact nc (x,k) List.mem_cons_self (Option.some.inj h)
        · exact hf (Option.some.inj h)
    | false =>
      refine List.mem_cons_of_mem _ (ih ?_)
      split at h <;> simpa only [List.lookup_cons,hx] using h
def slots (k:Nat) (fr:List Nat) (σ:St):St:=List.replicate k none ++ fr.map fun i=>(σ[i]?).join
section
variable {X : Cx} {N N' : List Str} {osc scope : Scope} {k : Nat} {fr : List Nat} {pins : List (Addr × Obj)} {σ : St} {H2 : Hp} {s2 : Shared} {fp : List Addr}
theorem comp_ok {C:Addr} {pn:List (Addr × Obj)} (S:CompScope N osc k N' fr scope) (hO:X.env.scope=osc) (hc:X.calm=true) (I:Inv X pins σ H2 s2) (hf:∀ b∈fp,FpOk X pins H2 b) (hlt:∀ b∈fp,b < s2.heap.objs.size) (hC:s2.heap.objs.size≤C) :
    (compX X N' scope ⟨clOf scope.names X.env.cells [],C,s2,H2,fp,pn⟩).Ok where
  mod:=I.ok.mod
  kind:=S.kind
  glob:=I.ok.glob
  blt:=I.ok.blt
  above:=hC
  inj:=fun x y c h1 h2=>I.ok.inj x y c (clOf_l0 h1) (clOf_l0 h2)
  has:=fun x hx=>by
    have hx:=relabel_back (env:=X.env) S.nocell hx
    have:=S.free (x,.free) hx rfl
    rw [← hO] at this
    obtain ⟨c,hc⟩:=I.ok.has x this
    exact Option.isSome_iff_exists.mp (clOf_has hc _ _ (.inl hx))
  cab:=fun x c h=>nomatch h
  hd:=fun _=>I.ok.hd hc
  frames:=I.ok.frames
  stk:=.inl rfl
  exf:=fun b hb=>⟨Nat.ne_of_lt (Nat.lt_of_lt_of_le (hlt b hb) hC),fun x c h=>(hf b hb).2.2.2.2.1 x c (clOf_l0 h)⟩
  bs:=fun b o e=>I.bs b o e
  bsz:=Nat.le_trans I.ok.bsz I.sz
  noex:=fun b o e hb=>by
    rcases (hf b hb).2.2.2.1 with z | z
    · exact I.ok.noex b o e z
    · exact absurd (Nat.lt_of_lt_of_le (Heap.lt_size e) (Nat.le_trans I.ok.bsz z)) (Nat.lt_irrefl _)
  exfs:=fun b hb hz=>by
    rcases List.mem_cons.mp (I.stkSub b hz) with z | z
    · exact (hf b hb).2.1 z
    · exact (hf b hb).2.2.1 z
  funs:=I.stack
  frf:=I.stkFree
theorem comp_inv {C:Addr} {h4:Heap} {tk:Nat} {m:Str→Option Value} {pl:List (Addr × Obj)} (S:CompScope N osc k N' fr scope) (hN:X.N=N) (hO:X.env.scope=osc) (hc:X.calm=true) (I:Inv X pins σ H2 s2) (hf:∀ b∈fp,FpOk X pins H2 b) (hlt:∀ b∈fp,b < s2.heap.objs.size) (hC:s2.heap.objs.size≤C)
    (kk:∀ b o,s2.heap.get? b=some o→h4.get? b=some o) (hn:h4.Ns C m)
    (hpl:∀ p∈pl,h4.get? p.1=some p.2∧s2.heap.objs.size≤p.1∧p.1≠C∧∀ v,p.2.data≠.cell v) :
    Inv (compX X N' scope ⟨clOf scope.names X.env.cells [],C,s2,H2,fp,X.pn ++ pins⟩) pl (slots k fr σ) H2 { s2 with heap:=h4,toks:=tk } where
  ok:=comp_ok S hO hc I hf hlt hC
  os:=rfl
  bare:=I.bare
  base:=Un.kept kk
  loc:=by
    refine ⟨m,hn,fun i x v h1 h2 _=>?_⟩
    have h1:N'[i]?=some x:=h1
    unfold slots at h2
    by_cases hi:i < k
    · rw [List.getElem?_append_left (by simpa using hi),List.getElem?_replicate,if_pos hi] at h2
      cases h2
    · rw [List.getElem?_append_right (by simpa using Nat.le_of_not_lt hi),List.length_replicate,List.getElem?_map] at h2
      cases hj:fr[i - k]? with
      | none=>rw [hj] at h2; cases h2
      | some j =>
        rw [hj] at h2
        have h2:(σ[j]?).join=some v:=Option.some.inj h2
        have h2:σ[j]?=some (some v):=by
          cases q:σ[j]? with
          | none=>rw [q] at h2; cases h2
          | some z=>rw [q] at h2; exact congrArg some h2
        have hd:(N'.drop k)[i - k]?=some x:=by
          rw [List.getElem?_drop]
          rw [show k + (i - k)=i by omega]
          exact h1
        have hx:N[j]?=some x:=by
          have:=congrArg (fun l=>l[i - k]?) S.sl
          simp only [List.getElem?_map,hj,hd,Option.map_some] at this
          exact Option.some.inj this
        have hfx:=S.fre x (List.mem_of_getElem? hd)
        have ho:=S.free (x,.free) (PySem.mem_of_lookup hfx) rfl
        rw [← hO] at ho
        obtain ⟨m0,hn0,hl0⟩:=I.loc
        obtain ⟨u,ru,lu⟩:=hl0 j x v (by rw [hN]; exact hx) h2 (.inr ho)
        refine ⟨u,ru,.inr ⟨relabel_free hfx,?_⟩⟩
        rcases lu with ⟨z,_⟩ | ⟨_,c,hcl,hcell⟩
        · exfalso
          have z:X.env.scope.names.lookup x=some .local:=z
          rcases ho with ho | ho <;> (rw [show X.env.scope.names.lookup x=_ from ho] at z; cases z)
        · obtain ⟨c',hc'⟩:=Option.isSome_iff_exists.mp (clOf_has hcl _ [] (.inl (PySem.mem_of_lookup hfx)))
          have:=clOf_l0 hc'
          rw [hcl] at this
          cases this
          obtain ⟨o,e,d⟩:=hcell
          exact ⟨_,hc',o,kk _ _ e,d⟩
  cell:=fun x c h=>by
    obtain ⟨v,o,e,d⟩:=I.cell x c (clOf_l0 h)
    exact ⟨v,o,kk _ _ e,d⟩
  free:=I.hok.fresh hC
  freeC:=fun x c h=>I.freeC x c (clOf_l0 h)
  pin:=fun p hp=>by
    rcases List.mem_append.mp hp with hp | hp
    · obtain ⟨e,n,ne,nf,d⟩:=I.pin p hp
      refine ⟨kk _ _ e,n,Nat.ne_of_lt (Nat.lt_of_lt_of_le (Heap.lt_size e) hC),fun z=>?_,d⟩
      rcases List.mem_cons.mp (I.stkSub p.1 z) with z | z
      · exact ne z
      · exact nf z
    · obtain ⟨e,a,ne,d⟩:=hpl p hp
      refine ⟨e,I.hok.fresh a,ne,fun z=>?_,d⟩
      rcases List.mem_cons.mp (I.stkSub p.1 z) with z | z
      · exact Nat.ne_of_gt (Nat.lt_of_lt_of_le I.lt a) z
      · exact I.nofs a z
  hok:=I.hok.kept kk
  len:=by
    unfold slots
    rw [List.length_append,List.length_replicate,List.length_map]
    exact S.len.symm
  kno:=fun _ _ z=>nomatch z
end
end L2
namespace L2
open PySem PySem.Spec PyProof.Rows
theorem compLoop_any {prog:Program} {w:World} {A:Around} {R:Result→Shared→Prop} {s:Shared} {elt target iter:Expr} {ifs:List Expr} {scope:Scope} {pos:Pos} {it acc:Value} {env:Env} (I:Nat→Shared→Prop)
    (turn:∀ n s,I n s→wpAny (model prog w) A (pyNext it) (fun r s₁=>match r with
      | none=>R (.ok .next) s₁
      | some v=>wpAny (model prog w) A (letOwnedTupleGo target it v) (fun _ s₁=>wpAny (model prog w) A (assign target env v) (fun _ s₂ =>
          wpAny (model prog w) A (forIn ifs true fun c r=>if r=true then do let ok ← isTrue c env (eval c env); pure (ForInStep.yield ok) else pure (ForInStep.yield r)) (fun ok s₃ =>
            if ok=true then wpAny (model prog w) A (eval elt env) (fun x s₄ =>
              wpAny (model prog w) A (call (.builtin "list.append") [acc,x]) (fun _ s₅=>∃ m,m < n∧I m s₅) (fun _ _=>False) s₄) (fun _ _=>False) s₃
            else ∃ m,m < n∧I m s₃) (fun _ _=>False) s₂) (fun _ _=>False) s₁) (fun _ _=>False) s₁) (fun _ _=>False) s)
    (n:Nat) (h:I n s) :
    codeAny (model prog w) A (.compLoop (.ListComp elt [⟨target,iter,ifs,0⟩] scope pos) 0 it acc env) R s:=by
  refine codeAny_loop rfl I (fun n s hI=>?_) n h
  show wpAny _ A ((compTurn (.ListComp elt [⟨target,iter,ifs,0⟩] scope pos) 0 it acc env).onRaise (fun x=>do noteFrame x env; theTreesLotGoes x)) _ _ s
  refine wpAny_noted ?_
  rw [compTurn_list]
  refine wpAny_bind (wpAny_standAt (wpAny_bind (wpAny_mono (turn n s hI) (fun r s₁ h₁=>?_) fun _ _ h'=>h'.elim)))
  cases r with
  | none=>exact wpAny_pure h₁
  | some v =>
    refine wpAny_bind (wpAny_mono h₁ (fun _ s₁ h₁=>?_) fun _ _ h'=>h'.elim)
    refine wpAny_bind (wpAny_mono h₁ (fun _ s₂ h₂=>wpAny_bind (wpAny_mono h₂ (fun ok s₃ h₃=>?_) fun _ _ h'=>h'.elim)) fun _ _ h'=>h'.elim)
    cases ok with
    | false=>exact wpAny_pure ⟨rfl,h₃⟩
    | true =>
      exact wpAny_bind (wpAny_bind (wpAny_mono h₃ (fun x s₄ h₄=>wpAny_bind (wpAny_mono h₄ (fun _ s₅ h₅=>wpAny_pure (wpAny_pure ⟨rfl,h₅⟩)) fun _ _ h'=>h'.elim)) fun _ _ h'=>h'.elim))
def PTs (X:Cx) (ifs:List Expr) (t:TT):Prop :=
  ∀ (pins:List (Addr × Obj)) (s:Shared) (σ:St) (H:Hp) (Q:Bool→Hp→Prop),Inv X pins σ H s→t σ H Q →
    wpAny (model X.prog X.w) X.A (forIn ifs true fun c r=>if r=true then do let ok ← isTrue c X.env (eval c X.env); pure (ForInStep.yield ok) else pure (ForInStep.yield r)) (TP X pins σ Q) X.xe s
def tTT:TT:=fun _ H Q=>Q true H
theorem pts_nil {X:Cx}:PTs X [] tTT:=fun _ _ _ _ _ I q=>wpAny_tests_nil ⟨_,I,q⟩
theorem pts_one {X:Cx} {c:Expr} {t:TT} (h:PT X c t):PTs X [c] t:=fun pins s σ H Q I q=>wpAny_tests_one (h pins s σ H Q I q)
section
variable {X : Cx} {N N' : List Str} {osc scope : Scope} {k : Nat} {fr : List Nat} {pins : List (Addr × Obj)} {σ : St} {H2 : Hp} {s2 : Shared} {fp : List Addr}
def lo (its:List Value) (n:Nat):Obj:={ cls:=.type "list",data:=.seq its.toArray n }
theorem comp_back {C D:Addr} {H':Hp} {s':Shared} {h'':Heap} {σ':St} {pl:List (Addr × Obj)} {ys:List V} {its:List Value} {n:Nat}
    (I:Inv X pins σ H2 s2) (hf:∀ b∈fp,FpOk X pins H2 b) (hC:s2.heap.objs.size≤C) (hD:s2.heap.objs.size≤D) (hCD:C≠D)
    (J:Inv (compX X N' scope ⟨clOf scope.names X.env.cells [],C,s2,H2,fp,X.pn ++ pins⟩) pl σ' H' s') (hp:(D,lo its n)∈pl) (r:Vals ys its) (hz:ys.length≤sizeLine) (hs:Heap.SameBut C s'.heap h'') :
    Inv X pins σ (upd H' D (.lst ys)) { s' with heap:=h'' }:=by
  have ltC:∀ b o,s2.heap.get? b=some o→b≠C:=fun b o e=>Nat.ne_of_lt (Nat.lt_of_lt_of_le (Heap.lt_size e) hC)
  have ltD:∀ b o,s2.heap.get? b=some o→b≠D:=fun b o e=>Nat.ne_of_lt (Nat.lt_of_lt_of_le (Heap.lt_size e) hD)
  obtain ⟨eD,nD,_,_,_⟩:=J.pin (D,lo its n) (List.mem_append_right _ hp)
  have u:Un (frs X.stack) fp H2 H' s2.heap s'.heap:=J.base
  have u2:Un (frs X.stack) fp H2 (upd H' D (.lst ys)) s2.heap h'':=⟨
    fun b o e n hb hx=>hs.extBut b o (ltC b o e) (u.keep b o e n hb hx),
    fun b o e n hb hx=>let ⟨sl,q⟩:=u.slot b o e n hb hx; ⟨sl,hs.extBut b _ (ltC b o e) q⟩,
    fun b o e n hx=>by rw [upd_ne (ltD b o e)]; exact u.free b o e n hx,
    fun b o e hx=>let ⟨o',q⟩:=u.there b o e hx; ⟨o',hs.extBut b _ (ltC b o e) q⟩,
    fun b xs e=>by rw [upd_ne (ne_of_none (u.tups b xs e) nD)]; exact u.tups b xs e,
    fun b o v e=>by rw [upd_ne (ne_of_none (u.frzs b o v e) nD)]; exact u.frzs b o v e,
    fun b ps e=>let ⟨m,q⟩:=u.tbls b ps e; ⟨m,by rw [upd_ne (ne_of_none q nD)]; exact q⟩⟩
  have ok2:HOk X.prog X.w (upd H' D (.lst ys)) h'':=by
    refine HOk.track (P:=X.prog) (w:=X.w) J.hok (ch:=[C]) (fun b o hb e=>hs.extBut b o (by simpa using hb) e) (fun b hb=>?_) nD ⟨hz,its,n,r,hs.extBut _ _ (Ne.symm hCD) eD⟩
    rw [List.mem_singleton.mp hb]; exact J.free
  exact I.call' (s':={ s' with heap:=h'' }) (ch:=fp) J.os u2 ok2 J.bare fun b hb=>let ⟨_,f1,_,f3,f4,f5⟩:=hf b hb; ⟨f3,f1,f4,f5⟩
end
end L2
namespace L2
open PySem PySem.Spec PyProof.Rows
def CTurn (J:It) (k:Nat) (fr:List Nat) (σ:St) (g:CA→TG) (tt:CA→TT) (te:CA→TE) (W:Nat→Nat→List V→Hp→Prop) (F:List V→Hp→Prop):Prop :=
  ∀ i m ys H,W i m ys H→ys.length≤sizeLine∧∀ ca,(J.stop i H∧F ys H)∨(J.go i H∧ys.length < sizeLine∧∃ Nx:List V→Hp→Prop,(∀ v H',Nx (ys ++ [v]) H'→∃ m',m' < m∧W (i + 1) m' (ys ++ [v]) H')∧(∀ H',Nx ys H'→∃ m',m' < m∧W (i + 1) m' ys H')∧∀ x H',J.yld i H x H'→g ca x (slots k fr σ) H' fun σ2 H2 =>
    (List.drop k σ2=fr.map (fun i=>(σ[i]?).join)∧σ2.length=k + fr.length)∧tt ca σ2 H2 fun b H3 =>
      if b=true then te ca σ2 H3 fun v H4=>Nx (ys ++ [v]) H4 else Nx ys H3)
section
variable {X : Cx} {N N' : List Str} {osc scope : Scope} {k : Nat} {fr : List Nat} {pins : List (Addr × Obj)} {σ : St} {H2 : Hp} {s2 : Shared} {fp : List Addr}
theorem slots_weak {σ2:St} (e1:List.drop k σ2=fr.map (fun i=>(σ[i]?).join)):∀ (i:Nat) v,(slots k fr σ)[i]?=some (some v)→σ2[i]?=some (some v):=fun i v h=>by
  unfold slots at h
  by_cases hi:i < k
  · rw [List.getElem?_append_left (by simpa using hi),List.getElem?_replicate,if_pos hi] at h
    cases h
  · rw [List.getElem?_append_right (by simpa using Nat.le_of_not_lt hi),List.length_replicate,← e1,List.getElem?_drop] at h
    rw [← h,show k + (i - k)=i by omega]
theorem comp_block {elt tg iter:Expr} {ifs:List Expr} {pos:Pos} {J:It} {it:Addr} {tn:Nat→Heap→Prop} {g:CA→TG} {tt:CA→TT} {te:CA→TE} {W:Nat→Nat→List V→Hp→Prop} {F:List V→Hp→Prop}
    {RR:Value→Addr→Result→Shared→Prop} {E:Value→Shared→Prop}
    (S:CompScope N osc k N' fr scope) (hN:X.N=N) (hO:X.env.scope=osc) (hc:X.calm=true) (I:Inv X pins σ H2 s2) (T:Turn X.prog X.w X.K tg J fp it tn) (st2:tn 0 s2.heap) (hf:∀ b∈fp,FpOk X pins H2 b)
    (hb:∀ ca,PG (compX X N' scope ca) tg (g ca)∧PTs (compX X N' scope ca) ifs (tt ca)∧PE (compX X N' scope ca) elt (te ca))
    (w0:∃ m,W 0 m [] H2) (turn:CTurn J k fr σ g tt te W F)
    (hRR:∀ D C h4 σ' H' s' pl ys its n m,s2.heap.objs.size≤C→s2.heap.objs.size≤D→C≠D→Inv (compX X N' scope ⟨clOf scope.names X.env.cells [],C,s2,H2,fp,X.pn ++ pins⟩) pl σ' H' s'→(D,lo its n)∈pl→Vals ys its→ys.length≤sizeLine →
      s'.heap.Ns C m→F ys H'→h4=s'.heap→RR (.ref D) C (.ok .next) s') :
    wpAny (model X.prog X.w) X.A (newList []) (fun acc s3=>wpAny (model X.prog X.w) X.A (newFunctionEnv scope X.env.globals (clOf scope.names X.env.cells []) [] X.env.qual none .none (some X.env)) (fun cenv s4 =>
      codeAny (model X.prog X.w) X.A (.compStart (.ListComp elt [⟨tg,iter,ifs,0⟩] scope pos) 0 (.ref it) acc { cenv with scope:=relabel scope X.env }) (RR acc cenv.locals) s4) E s3) E s2:=by
  refine wpAny_newObj_type (wpAny_newFunctionEnv S.nocell (by intro y hy; simp at hy) (fun h4 hn4 hsb4=>?_) S.kind)
  dsimp only at hn4 hsb4 ⊢
  generalize hH3:s2.heap.push { cls:=.type "list",dict:=none,data:=.seq ([]:List Value).toArray }=H3 at hn4 hsb4 ⊢
  have hCz:H3.objs.size=s2.heap.objs.size + 1:=by rw [← hH3,Heap.size_push]
  have hC:s2.heap.objs.size≤H3.objs.size:=by rw [hCz]; exact Nat.le_succ _
  have hCD:H3.objs.size≠s2.heap.objs.size:=by rw [hCz]; exact Nat.succ_ne_self _
  have hlt:∀ b∈fp,b < s2.heap.objs.size:=fun b hb=>let ⟨_,e,_⟩:=T.obj _ _ st2 b hb; Heap.lt_size e
  have kk:∀ b o,s2.heap.get? b=some o→h4.get? b=some o:=fun b o e=>hsb4.extBut b o (Nat.ne_of_lt (Nat.lt_of_lt_of_le (Heap.lt_size e) hC)) (Heap.get?_push_of_some _ (hH3 ▸ Heap.get?_push_of_some _ e))
  have hacc:h4.get? s2.heap.objs.size=some (lo [] 0):=hsb4.extBut _ _ (Ne.symm hCD) (Heap.get?_push_of_some _ (hH3 ▸ Heap.get?_push_size _ rfl))
  generalize hX':compX X N' scope ⟨clOf scope.names X.env.cells [],H3.objs.size,s2,H2,fp,X.pn ++ pins⟩=X' at hRR
  have eL:X'.env.locals=H3.objs.size:=by rw [← hX']; rfl
  have I4:∀ tk,Inv X' [(s2.heap.objs.size,lo [] 0)] (slots k fr σ) H2 { s2 with heap:=h4,toks:=tk }:=fun tk=>by
    rw [← hX']
    refine comp_inv S hN hO hc I hf hlt hC kk hn4 fun p hp=>?_
    rw [List.mem_singleton.mp hp]
    exact ⟨hacc,Nat.le_refl _,Ne.symm hCD,fun v z=>by
      have z':Data.seq _ _=Data.cell v:=z
      cases z'⟩
  have st4:tn 0 h4:=T.keep _ _ _ st2 fun b _ o e=>kk b o e
  have fpo:∀ {pl:List (Addr × Obj)} {H:Hp},(∀ b∈fp,H b=none)→(∀ p∈pl,p.1=s2.heap.objs.size)→∀ b∈fp,FpOk X' pl H b:=fun {pl H} hn hpl b hb=>by
    obtain ⟨_,f1,f2,f3,f4,f5⟩:=hf b hb
    rw [← hX']
    refine ⟨hn b hb,Nat.ne_of_lt (Nat.lt_of_lt_of_le (hlt b hb) hC),fun z=>?_,.inl hb,fun x c h=>f4 x c (clOf_l0 h),fun p hp z=>?_⟩
    · rcases List.mem_cons.mp (I.stkSub b z) with z | z
      · exact f1 z
      · exact f2 z
    · rcases List.mem_append.mp hp with hp | hp
      · exact f5 p hp z
      · have:=hpl p hp
        rw [z] at this
        exact Nat.ne_of_lt (hlt b hb) this
  have hcX:X'.calm=true:=by rw [← hX']; rfl
  have loop:∀ s3:Shared,(∃ tk,s3={ s2 with heap:=h4,toks:=tk }) →
      codeAny (model X.prog X.w) X.A (.compLoop (.ListComp elt [⟨tg,iter,ifs,0⟩] scope pos) 0 (.ref it) (.ref s2.heap.objs.size) (compEnvC scope (clOf scope.names X.env.cells []) H3.objs.size X.env))
        (RR (.ref s2.heap.objs.size) H3.objs.size) s3:=by
    rintro s3 ⟨tk,rfl⟩
    obtain ⟨m0,w0⟩:=w0
    refine compLoop_any (fun n s'=>∃ i ys its nn H',Inv X' [(s2.heap.objs.size,lo its nn)] (slots k fr σ) H' s'∧Vals ys its∧tn i s'.heap∧(∀ b∈fp,H' b=none)∧W i n ys H') ?_ m0
      ⟨0,[],[],0,H2,I4 tk,.nil,st4,fun b hb=>(hf b hb).1,w0⟩
    rintro n s5 ⟨i,ys,its,nn,H5,I5,r5,st5,fr5,w5⟩
    obtain ⟨hz,tca⟩:=turn i n ys H5 w5
    have e1:X'.prog=X.prog:=by rw [← hX']; rfl
    have e2:X'.w=X.w:=by rw [← hX']; rfl
    have e3:X'.K=X.K:=by rw [← hX']; rfl
    have e4:X'.A=X.A:=by rw [← hX']; rfl
    have e5:X'.xe=fun _ _=>False:=by rw [← hX']; rfl
    have e6:X'.env=compEnvC scope (clOf scope.names X.env.cells []) H3.objs.size X.env:=by rw [← hX']; rfl
    have one:∀ (its:List Value) (nn:Nat),∀ p∈[(s2.heap.objs.size,lo its nn)],p.1=s2.heap.objs.size:=fun its nn p hp=>by rw [List.mem_singleton.mp hp]
    rcases tca ⟨clOf scope.names X.env.cells [],H3.objs.size,s2,H2,fp,X.pn ++ pins⟩ with ⟨stop,fin⟩ | ⟨go,hzz,Nx,nx1,nx2,step⟩
    · have:=T.done X' e1 e2 e3 hcX i _ s5 _ H5 (fun _ _=>False) I5 (fpo fr5 (one its nn)) st5 stop
      rw [e4] at this
      refine thn this fun r s6 ⟨hr,I6⟩=>?_
      subst hr
      obtain ⟨m,hn,_⟩:=I6.loc
      rw [eL] at hn
      exact hRR _ _ s6.heap _ H5 s6 _ ys its nn m hC (Nat.le_refl _) hCD (hX' ▸ I6) List.mem_cons_self r5 hz hn fin rfl
    · have:=T.item X' e1 e2 e3 hcX i _ s5 _ H5 (fun _ _=>False) I5 (fpo fr5 (one its nn)) st5 go
      rw [e4] at this
      refine thn this fun r s6 ⟨u,hr,h6⟩=>?_
      subst hr
      refine thn h6 fun _ s7 ⟨x,H7,I7,r7,y7,st7,fr7⟩=>?_
      have I7':=I7.pinned (fpo fr7 (one its nn)) (T.obj _ _ st7)
      obtain ⟨bg,bt,be⟩:=hb ⟨clOf scope.names X.env.cells [],H3.objs.size,s2,H2,fp,X.pn ++ pins⟩
      rw [hX'] at bg bt be
      have:=bg _ s7 _ H7 x u _ I7' r7 (step x H7 y7)
      rw [e1,e2,e4,e5,e6] at this
      refine thn this fun _ s8 ⟨σ8,H8,I8,⟨d1,d2⟩,q8⟩=>?_
      have:=bt _ s8 σ8 H8 _ I8 q8
      rw [e1,e2,e4,e5,e6] at this
      refine thn this fun ok s9 ⟨H9,I9,q9⟩=>?_
      have wk:∀ {H:Hp} {s:Shared},Inv X' ([(s2.heap.objs.size,lo its nn)] ++ pinsAt fp s7.heap) σ8 H s→Inv X' ([(s2.heap.objs.size,lo its nn)] ++ pinsAt fp s7.heap) (slots k fr σ) H s:=fun J =>
        J.weak (by unfold slots; rw [List.length_append,List.length_replicate,List.length_map]; exact d2.symm) (slots_weak d1) fun _ _ z=>by rw [← hX'] at z; cases z
      have tnk:∀ {H:Hp} {s:Shared} {σ9:St},Inv X' ([(s2.heap.objs.size,lo its nn)] ++ pinsAt fp s7.heap) σ9 H s→tn (i + 1) s.heap∧∀ b∈fp,H b=none:=fun J=>⟨T.keep _ _ _ st7 fun b hb o e=>(J.pin (b,o) (List.mem_append_right _ (List.mem_append_right _ (mem_pinsAt hb e)))).1,fun b hb=>by
        obtain ⟨o,e,d⟩:=T.obj _ _ st7 b hb
        exact (J.pin (b,o) (List.mem_append_right _ (List.mem_append_right _ (mem_pinsAt hb e)))).2.1⟩
      cases ok with
      | false =>
        rw [if_neg Bool.false_ne_true]
        obtain ⟨m',hm,w9⟩:=nx2 _ q9
        exact ⟨m',hm,i + 1,ys,its,nn,H9,(wk I9).unpinned,r5,(tnk I9).1,(tnk I9).2,w9⟩
      | true =>
        rw [if_pos rfl]
        have:=be _ s9 σ8 H9 _ I9 q9
        rw [e1,e2,e4,e5,e6] at this
        refine thn this fun u10 s10 ⟨v,H10,I10,r10,q10⟩=>?_
        obtain ⟨m',hm,w10⟩:=nx1 _ _ q10
        have p10:=I10.pin (s2.heap.objs.size,lo its nn) (List.mem_append_right _ (List.mem_append_left _ List.mem_cons_self))
        have hl:its.length=ys.length:=r5.length.symm
        refine append_at (hsz:=by rw [List.size_toArray,hl]; exact Nat.le_of_lt hzz) p10.1 fun h11 hs11 hD11=>?_
        obtain ⟨t10,f10⟩:=tnk I10
        have J:Inv X' [] (slots k fr σ) H10 s10:=(wk I10).pins_of fun p hp=>nomatch hp
        have ck:∀ x c,X'.env.cells.lookup x=some c→c < s2.heap.objs.size:=fun x c h=>by
          rw [e6] at h
          obtain ⟨_,o,e,_⟩:=I.cell x c (clOf_l0 h)
          exact Heap.lt_size e
        have ns:X'.s₀=s2:=by rw [← hX']; rfl
        have J2:Inv X' [] (slots k fr σ) H10 { s10 with heap:=h11,toks:=s10.toks }:=J.turned (fun b o hb e=>(hs11.2 b hb).trans e) p10.2.1 (by rw [eL]; exact Ne.symm hCD) (.inr (by rw [ns]; exact Nat.le_refl _)) (fun x c h=>Nat.ne_of_lt (ck x c h)) fun p hp z=>by
          rcases List.mem_append.mp hp with hp | hp
          · rw [← hX'] at hp
            have hp:p∈X.pn ++ pins:=hp
            exact Nat.ne_of_lt (Heap.lt_size (I.pin p hp).1) z
          · cases hp
        refine ⟨m',hm,i + 1,ys ++ [v],its ++ [u10],nn + 1,H10,J2.pins_of fun p hp=>?_,r5.append (.cons r10 .nil),T.keep _ _ _ t10 fun b hb o e=>(hs11.2 b (Nat.ne_of_lt (hlt b hb))).trans e,f10,w10⟩
        rw [List.mem_singleton.mp hp]
        refine ⟨?_,p10.2.1,p10.2.2.1,p10.2.2.2.1,fun v z=>by
          have z':Data.seq _ _=Data.cell v:=z
          cases z'⟩
        show h11.get? s2.heap.objs.size=some (lo (its ++ [u10]) (nn + 1))
        rw [hD11]
        simp [lo]
  exact codeAny_compStart_list (loop _ ⟨_,rfl⟩) (T.self _ 0 _ _ _ st4 (loop _ ⟨_,rfl⟩))
end
end L2
namespace L2
open PySem PySem.Spec PyProof.Rows
def tComp (wi:TI) (k:Nat) (fr:List Nat) (g:CA→TG) (tt:CA→TT) (te:CA→TE):TE:=fun σ H Q=>wi σ H fun J H1=>∃ W:Nat→Nat→List V→Hp→Prop,(∃ m,W 0 m [] H1) ∧
  CTurn J k fr σ g tt te W (fun ys H=>∀ p,H p=none→Q (.ref p) (upd H p (.lst ys)))
section
variable {X : Cx} {N N' : List Str} {osc scope : Scope} {k : Nat} {fr : List Nat} {elt tg iter : Expr} {ifs : List Expr} {pos : Pos} {wi : TI} {g : CA → TG} {tt : CA → TT} {te : CA → TE}
theorem pe_comp (S:CompScope N osc k N' fr scope) (hN:X.N=N) (hO:X.env.scope=osc) (hc:X.calm=true) (hi:PI X tg iter wi)
    (hb:∀ ca,PG (compX X N' scope ca) tg (g ca)∧PTs (compX X N' scope ca) ifs (tt ca)∧PE (compX X N' scope ca) elt (te ca))
    (hs:∀ x,foldedSetIterable iter X.env x=pure x:=by intro _; rfl):PE X (.ListComp elt [⟨tg,iter,ifs,0⟩] scope pos) (tComp wi k fr g tt te):=by
  intro pins s σ H Q I h
  rw [eval_ListComp]
  have hcl:closureFor scope X.env=pure (clOf scope.names X.env.cells []):=closureFor_of fun y hy hf=>by
    have:=S.free y hy hf
    rw [← hO] at this
    exact I.ok.has y.1 this
  refine wpAny_comprehension_free (use:=none) rfl hs hcl S.kind S.names (thn (hi pins s σ H _ I h) fun v s1 h1=>thn h1 fun itv s2 h2=>?_)
  obtain ⟨it,fp,tn,J,H2,e,I2,T,st2,f2,W,w0,turn⟩:=h2
  subst e
  refine comp_block S hN hO hc I2 T st2 f2 hb w0 turn fun D C h4 σ' H' s' pl ys its n m hC hD hCD J hp r hz hn fin _=>?_
  refine ⟨m,hn,fun h'' hs''=>⟨.ref D,_,comp_back I2 f2 hC hD hCD J hp r hz hs'',rfl,fin D ?_⟩⟩
  exact (J.pin _ (List.mem_append_right _ hp)).2.1
theorem ps_setC {i:Nat} {x:Str} {pos' spos:Pos} (hNd:X.N.Nodup) (hix:X.N[i]?=some x) (hx:X.env.scope.names.lookup x=some .local) (S:CompScope N osc k N' fr scope) (hN:X.N=N) (hO:X.env.scope=osc) (hc:X.calm=true) (hi:PI X tg iter wi)
    (hb:∀ ca,PG (compX X N' scope ca) tg (g ca)∧PTs (compX X N' scope ca) ifs (tt ca)∧PE (compX X N' scope ca) elt (te ca))
    (hsw:swapsWith (.ListComp elt [⟨tg,iter,ifs,0⟩] scope pos) (some (.Name x pos')) spos.line X.env=pure true:=by rfl) (hkn:X.kn i=Option.none:=by rfl)
    (hs:∀ x,foldedSetIterable iter X.env x=pure x:=by intro _; rfl):PS X (.Assign [.Name x pos'] (.ListComp elt [⟨tg,iter,ifs,0⟩] scope pos) spos) (tAsg (tComp wi k fr g tt te) (gName i)):=by
  intro pins s σ H D0 I h
  have hcl:closureFor scope X.env=pure (clOf scope.names X.env.cells []):=closureFor_of fun y hy hf=>by
    have:=S.free y hy hf
    rw [← hO] at this
    exact I.ok.has y.1 this
  rw [exec_Assign_Name_used _ _ _ _ hsw]
  refine wpAny_bind (wpAny_standAt (wpAny_bind ?_))
  show wpAny _ X.A (do let _ ← comprehension (.ListComp elt [⟨tg,iter,ifs,0⟩] scope pos) scope X.env _ (newList []) false (eval iter X.env) (some (assign (.Name x pos') X.env))) _ _ s
  refine wpAny_bind (thn (wpAny_comprehension_free (use:=some (assign (.Name x pos') X.env)) (Q:=fun _ s'=>SP X pins D0 .next s') rfl hs hcl S.kind S.names (thn (hi pins s σ H _ I h) fun v s1 h1=>thn h1 fun itv s2 h2=>?_))
    fun _ s' hq=>wpAny_pure (wpAny_pure hq))
  obtain ⟨it,fp,tn,J,H2,e,I2,T,st2,f2,W,w0,turn⟩:=h2
  subst e
  refine comp_block S hN hO hc I2 T st2 f2 hb w0 turn fun D C h4 σ' H' s' pl ys its n m hC hD hCD J hp r hz hn fin _=>?_
  have nD:=(J.pin _ (List.mem_append_right _ hp)).2.1
  have B:Inv X pins σ (upd H' D (.lst ys)) s':=comp_back (h'':=s'.heap) I2 f2 hC hD hCD J hp r hz ⟨rfl,fun _ _=>rfl⟩
  obtain ⟨oC,es,ep,eC,dC,rC⟩:=hn
  have cL:C≠X.env.locals:=Nat.ne_of_gt (Nat.lt_of_lt_of_le I2.lt hC)
  have B2:Inv X (pins ++ [(C,oC)]) σ (upd H' D (.lst ys)) s':=B.pins_of fun p hp2=>by
    rcases List.mem_append.mp hp2 with hp2 | hp2
    · exact B.pin p (List.mem_append_right _ hp2)
    · rw [List.mem_singleton.mp hp2]
      exact ⟨eC,by rw [upd_ne hCD]; exact J.free,cL,I2.nofs hC,fun v z=>by rw [dC] at z; cases z⟩
  refine wpAny_assign_Name (store_ok B2 hNd hix (.inl hx) (v:=.ref D) (u:=.ref D) rfl (fun s5 I5=>?_) (.inr hx) hkn)
  have p5:=I5.pin (C,oC) (List.mem_append_right _ (List.mem_append_right _ List.mem_cons_self))
  refine ⟨m,⟨oC,es,ep,p5.1,dC,rC⟩,fun h'' hs''=>⟨_,_,(I5.unpinned).turned (t':=s5.toks) (it:=C) (fun b o hb e=>hs''.extBut b o hb e) p5.2.1 p5.2.2.1 (.inr ?_) (fun y c hy z=>?_) (fun p hp2 z=>?_),fin D nD⟩⟩
  · exact Nat.le_trans I2.sz hC
  · obtain ⟨_,o,e,_⟩:=I2.cell y c hy
    exact Nat.ne_of_lt (Nat.lt_of_lt_of_le (Heap.lt_size e) hC) z
  · exact Nat.ne_of_lt (Nat.lt_of_lt_of_le (Heap.lt_size (I2.pin p hp2).1) hC) z
end
section
variable {k : Nat} {fr : List Nat} {σ : St} {g : CA → TG} {tt : CA → TT} {te : CA → TE} {F : List V → Hp → Prop} {H : Hp}
def CStep (k:Nat) (fr:List Nat) (σ:St) (g:CA→TG) (tt:CA→TT) (te:CA→TE) (ys:List V) (Nx:List V→Hp→Prop) (x:V) (H:Hp):Prop :=
  ∀ ca,g ca x (slots k fr σ) H fun σ2 H2=>(List.drop k σ2=fr.map (fun i=>(σ[i]?).join)∧σ2.length=k + fr.length)∧tt ca σ2 H2 fun b H3=>if b=true then te ca σ2 H3 fun v H4=>Nx (ys ++ [v]) H4 else Nx ys H3
theorem comp_by {J:It} {n:Nat} (Pv:Nat→List V→Hp→Prop) (hz:n < sizeLine) (h0:Pv 0 [] H) (hj:∀ i ys H,i < n→Pv i ys H→J.go i H∧∀ x H',J.yld i H x H'→CStep k fr σ g tt te ys (Pv (i + 1)) x H')
    (hd:∀ ys H,Pv n ys H→J.stop n H∧F ys H):∃ W:Nat→Nat→List V→Hp→Prop,(∃ m,W 0 m [] H)∧CTurn J k fr σ g tt te W F:=by
  refine ⟨fun i m ys H=>m=n - i∧i≤n∧ys.length≤i∧Pv i ys H,⟨n,by simp,Nat.zero_le _,Nat.zero_le _,h0⟩,?_⟩
  rintro i m ys H ⟨rfl,hi,hy,p⟩
  refine ⟨by omega,fun ca=>?_⟩
  by_cases hlt:i < n
  · obtain ⟨go,st⟩:=hj i ys H hlt p
    refine .inr ⟨go,by omega,Pv (i + 1),fun v H' z=>⟨n - (i + 1),by omega,rfl,hlt,by rw [List.length_append,List.length_singleton]; omega,z⟩,fun H' z=>⟨n - (i + 1),by omega,rfl,hlt,by omega,z⟩,fun x H' y=>st x H' y ca⟩
  · have e:i=n:=by omega
    subst e
    exact .inl (hd ys H p)
theorem comp_list {K:PySem.W.Frag} {a:Addr} {xs:List V} (Pv:Nat→List V→Hp→Prop) (hz:xs.length < sizeLine) (h0:Pv 0 [] H) (hl:∀ i ys H,i≤xs.length→Pv i ys H→SqL K H a xs)
    (hs:∀ i x ys H,xs[i]?=some x→Pv i ys H→CStep k fr σ g tt te ys (Pv (i + 1)) x H)
    (hd:∀ ys H,Pv xs.length ys H→F ys H):∃ W:Nat→Nat→List V→Hp→Prop,(∃ m,W 0 m [] H)∧CTurn (Itl K a) k fr σ g tt te W F:=by
  refine comp_by (n:=xs.length) Pv hz h0 (fun i ys H hi p=>⟨⟨xs,xs[i],hl i ys H (Nat.le_of_lt hi) p,by simp [hi]⟩,fun x H' ⟨e,y⟩=>?_⟩) fun ys H p=>⟨⟨xs,hl _ ys H (Nat.le_refl _) p,Nat.le_refl _⟩,hd ys H p⟩
  subst e
  exact hs i x ys _ (y xs (hl i ys _ (Nat.le_of_lt hi) p)) p
theorem comp_range {lo:Int} {n:Nat} (Pv:Nat→List V→Hp→Prop) (hz:n < sizeLine) (h0:Pv 0 [] H)
    (hs:∀ i ys H,i < n→Pv i ys H→CStep k fr σ g tt te ys (Pv (i + 1)) (.int (lo + i)) H)
    (hd:∀ ys H,Pv n ys H→F ys H):∃ W:Nat→Nat→List V→Hp→Prop,(∃ m,W 0 m [] H)∧CTurn (Itr lo n) k fr σ g tt te W F:=by
  refine comp_by (n:=n) Pv hz h0 (fun i ys H hi p=>⟨hi,fun x H' ⟨e,y⟩=>?_⟩) fun ys H p=>⟨Nat.le_refl _,hd ys H p⟩
  subst e y
  exact hs i ys _ hi p
theorem comp_enum {K:PySem.W.Frag} {a:Addr} {xs:List V} (Pv:Nat→List V→Hp→Prop) (hz:xs.length < sizeLine) (h0:Pv 0 [] H) (hl:∀ i ys H,i≤xs.length→Pv i ys H→SqL K H a xs)
    (hs:∀ i x ys H p,xs[i]?=some x→Pv i ys H→H p=none→CStep k fr σ g tt te ys (Pv (i + 1)) (.ref p) (upd H p (.tup [.int (i:Nat),x])))
    (hd:∀ ys H,Pv xs.length ys H→F ys H):∃ W:Nat→Nat→List V→Hp→Prop,(∃ m,W 0 m [] H)∧CTurn (Ite K a) k fr σ g tt te W F:=by
  refine comp_by (n:=xs.length) Pv hz h0 (fun i ys H hi p=>⟨⟨xs,xs[i],hl i ys H (Nat.le_of_lt hi) p,by simp [hi]⟩,fun v H' y=>?_⟩) fun ys H p=>⟨⟨xs,hl _ ys H (Nat.le_refl _) p,Nat.le_refl _⟩,hd ys H p⟩
  obtain ⟨pt,x,rfl,hn,rfl,y⟩:=y
  exact hs i x ys H pt (y xs (hl i ys _ (Nat.le_of_lt hi) p)) p hn
end
end L2
namespace L2
open PySem PySem.Spec PyProof.Rows
abbrev TJ:=St→Hp→(Hp→Prop)→Prop
def PJ (X:Cx) (n:Nat) (vs:List Expr) (t:TJ):Prop :=
  ∀ (pins:List (Addr × Obj)) (s:Shared) (σ:St) (H:Hp) (Q:VK) (acc:Str),acc.length + 3000 * n≤100000→Inv X pins σ H s→t σ H (fun H1=>∀ z:Str,Q (.str z) H1) →
    wpAny (model X.prog X.w) X.A (joinParts acc (evalEach vs X.env)) (EP X pins σ Q) X.xe s
section
variable {X : Cx} {e : Expr} {te : TE} {pos p3 p4 : Pos} {c : Str} {k n : Nat} {vs : List Expr} {t : TJ}
theorem line100 {n:Nat} (h:n≤100000):n≤sizeLine:=by rw [sizeLine_eq]; omega
theorem pj_nil:PJ X 0 [] (fun _ H Q=>Q H):=fun _ _ _ H Q acc ha I h=>joinParts_nil ⟨.str _,H,I.tok _,⟨_,rfl⟩,h _⟩ (line100 (by omega))
theorem pj_str (hv:PJ X n vs t):PJ X (n + 1) (.Constant (.str c) k p3 :: vs) (fun σ H Q=>c.length≤1000∧t σ H Q):=fun pins s σ H Q acc ha I ⟨hc,h⟩=>by
  show wpAny _ _ (joinParts acc (eval (.Constant (.str c) k p3) X.env :: evalEach vs X.env)) _ _ s
  refine joinParts_cons (Calls.Constant_str ?_)
  have I0:Inv X pins σ H { s with toks:=s.toks + 1 }:=I.tok _
  exact ⟨line100 (by rw [strLen_append]; omega),hv pins _ σ H Q _ (by rw [strLen_append]; omega) I0 h⟩
theorem pj_int (he:PE X e te) (hv:PJ X n vs t):PJ X (n + 1) (.FormattedValue e (-1) none p4 :: vs) (fun σ H Q=>te σ H fun x H1=>∃ i,x=.int i∧i.natAbs.log2 < 1920∧t σ H1 Q):=fun pins s σ H Q acc ha I h=>by
  show wpAny _ _ (joinParts acc (eval (.FormattedValue e (-1) none p4) X.env :: evalEach vs X.env)) _ _ s
  refine joinParts_cons (FormattedValue_plain (thn (he pins _ σ H _ I h) fun u s1 ⟨x,H1,I1,rx,i,ex,hi,q⟩=>?_))
  subst ex
  obtain ⟨t,rfl⟩:=rx
  refine formatField_int_small hi ?_
  have hl:=int_text_length_le (k:=1920) (by decide) hi
  have hz:(acc ++ Str.ofString (toString i)).length + 3000 * n≤100000:=by rw [strLen_append,PySem.ofString_length]; omega
  exact ⟨line100 (by omega),hv pins _ σ H1 Q _ hz (I1.tok _) q⟩
def tFsN (t:TJ):TE:=fun σ H Q=>t σ H fun H1=>∀ z:Str,Q (.str z) H1
theorem pe_fstrN {v1 v2:Expr} (hv:PJ X n (v1 :: v2 :: vs) t) (hn:n≤20:=by decide):PE X (.JoinedStr (v1 :: v2 :: vs) pos) (tFsN t):=fun pins s σ H Q I h =>
  JoinedStr_many (hv pins s σ H Q Str.empty (by have:Str.empty.length=0:=rfl; omega) I h)
end
end L2
namespace L2
open PySem PySem.Spec PyProof.Rows
section
variable {env : Env} {es : List Expr}
theorem st_ListComp {a b c p}:starEach (.ListComp a b c p :: es) env=(false,eval (.ListComp a b c p) env) :: starEach es env:=by rfl
end
end L2
namespace L2
def STup (H H':Hp):Prop:=∀ p xs,H p=some (.tup xs)→H' p=some (.tup xs)
theorem same_st {H H':Hp} (e:Same H H'):STup H H':=fun p _ h=>e p _ h
theorem STup.trans {H H' H'':Hp} (e:STup H H') (e':STup H' H''):STup H H'':=fun p xs h=>e' p xs (e p xs h)
theorem stup_lst {H:Hp} {l:PySem.Addr} {ys:List V} {o:HO} (h:H l=some (.lst ys)):STup H (upd H l o):=fun p xs e=>by
  rw [upd_ne (ne_of e h (by intro z; cases z))]; exact e
theorem same_upd {H H':Hp} {l:PySem.Addr} {o:HO} (e:Same H H') (n:H l=Option.none):Same H (upd H' l o):=fun p u h=>by
  rw [upd_ne (ne_of_none h n)]; exact e p u h
theorem same_none {H H':Hp} {l:PySem.Addr} (e:Same H H') (n:H' l=Option.none):H l=Option.none:=by
  cases h:H l with
  | none=>rfl
  | some o=>rw [e _ _ h] at n; cases n
theorem same_lst {K:PySem.W.Frag} {H H':Hp} {a:PySem.Addr} {xs:List V} (e:Same H H') (h:SqL K H a xs):SqL K H' a xs:=by
  rcases h with (h | ⟨o,h⟩) | h
  · exact .inl (.inl (e _ _ h))
  · exact .inl (.inr ⟨o,e _ _ h⟩)
  · exact .inr h
end L2
namespace L2
open PySem PySem.Spec PyProof.Rows
section
variable {X : Cx} {pins : List (Addr × Obj)} {σ : St} {H : Hp} {s : Shared}
end
section
variable {X : Cx} {n : Nat}
theorem Room.al {k:Nat} {A:Around} (r:Room k A) (n:Nat) (h:n≤50:=by decide):A.units + (n + 1) < cLine:=by have:=r.un; omega
end
end L2
namespace L2
theorem seqK {A B:TS} {D:Ends} {σ:St} {H:Hp} (Mid:St→Hp→Prop) (hA:∀ nx:St→Hp→Prop,(∀ σ H,Mid σ H→nx σ H)→A { D with nx:=nx } σ H) (hB:∀ σ H,Mid σ H→B D σ H):tSeq A B D σ H:=hA (B D) hB
end L2
namespace L2
open PySem PySem.Spec PyProof.Rows
structure RoomH (k:Nat) (A:Around):Prop where
  dp:A.depth + 3 * k + 5 < recursionLimit
  un:A.units + 16 * k + 200 < cLine
  gd:A.guards=some []
theorem Room.h {k:Nat} {A:Around} (r:Room k A):RoomH k A:=⟨r.dp,r.un,r.gd⟩
theorem RoomH.mark {k:Nat} {A:Around} {v:Option Value} (r:RoomH k A):RoomH k (A.mark v):=⟨r.dp,r.un,r.gd⟩
structure FnOkH (P:Program) (w:World) (K:PySem.W.Frag) (mg:Str→Option Value) (base:Heap) (CX:CXT) (k:Nat) (f:Addr) (fd:FuncData) (ps:List Str) (sp:Sp):Prop where
  len:∀ vs H Q E,sp vs H Q E→vs.length=ps.length
  run:∀ (A:Around) (outer:List Env) (s:Shared) (H:Hp) (args:Args) (us:List Value) (vs:List V) (Q:VK) (E:XK),RoomH k A→Env0 P w K mg base A outer s H→BindsTo s fd args (ps.zip us)→Vals vs us→sp vs H Q E →
    codeAny (model P w) A (.call (.ref f) args) (CR CX outer P w H s Q E) s
abbrev Cx.dull (X:Cx):Cx:={ X with calm:=false,xe:=fun _ _=>False }
structure Dh (P:Program) (w:World) (K:PySem.W.Frag) (mg:Str→Option Value) (base:Heap) (k:Nat) (x:Str) (ps:List Str) (sp:Sp):Prop where
  ex:∃ f fd,mg x=some (.ref f)∧PySem.W.keepIn K (.ref f)=true∧Binds K fd ps []∧FnOkH P w K mg base (CXE P w) k f fd ps sp
section
variable {X : Cx} {k : Nat} {ps : List Str} {sp : Sp} {E : XK} {x : Str} {p pos : Pos} {e : Expr} {es : List Expr} {t : TA}
end
end L2
namespace L2
open PySem PySem.Spec PyProof.Rows
end L2
namespace L2
open PySem PySem.Spec PyProof.Rows
section
variable {X : Cx} {asg : List Nat} {x : Str} {C : Addr} {b0 : Stmt} {body suite : List Stmt} {tb : XK → List (Addr × Obj) → (Nat → Option V) → (Value → Shared → Prop) → TS} {th : Addr → List (Addr × Obj) → TS} {np pos hpos : Pos}
end
end L2
namespace L2
open PySem PySem.Spec PyProof.Rows
section
variable {X : Cx}
end
end L2
namespace PySem
namespace F
end F
section
variable {prog : Program} {w : World} {A : Around} {s : Shared} {R : Result → Shared → Prop}
variable {I : Addr} {fp wr : List Addr} {G : Array GenState → Array GenState → Prop} {n : Nat} {P : Nat → Value → Prop} {St : Nat → Shared → Prop}
end
section
variable {prog : Program} {w : World} {A : Around} {E : Value → Shared → Prop} {s : Shared}
end
end PySem
namespace L2
open PySem PySem.Spec PyProof.Rows
section
variable {X : Cx}
end
end L2
namespace L2
open PySem PySem.Spec PyProof.Rows
def compXM (X:Cx) (N':List Str) (scope:Scope) (xc:Str) (c:CA):Cx where
  prog:=X.prog
  w:=X.w
  K:=X.K
  mg:=X.mg
  base:=X.base
  A:=X.A
  N:=N'
  s₀:=c.s2
  H₀:=c.H2
  env:=compEnvC scope c.cl c.C X.env
  outer:=X.stack
  stack:=X.stack
  ex:=c.fp
  fn:=fun y=>y == xc
  calm:=true
  pn:=c.pn
  kn:=fun _=>Option.none
  xe:=fun _ _=>False
structure CompScopeM (N:List Str) (osc:Scope) (k:Nat) (N':List Str) (fr:List Nat) (scope:Scope) (xc:Str):Prop where
  kind:scope.kind=.function
  names:∀ y∈scope.names,y.2=.local→scope.names.lookup y.1=some .local
  free:∀ y∈scope.names,y.2=.free→osc.names.lookup y.1=some .cell∨osc.names.lookup y.1=some .free
  len:N'.length=k + fr.length
  sl:fr.map (fun i=>N[i]?)=(N'.drop k).map some
  fre:∀ x∈N'.drop k,scope.names.lookup x=some .free
  sep:∀ x∈N'.drop k,(x,NameKind.cell) ∉ scope.names
  xsep:(xc,NameKind.free) ∉ scope.names
theorem cf_lookup:∀ (names:List (Str × NameKind)) (n:Nat) (acc:List (Str × Addr)) {y:Str} {c:Addr},(cellsFrom n names acc).lookup y=some c→(n≤c∧(y,NameKind.cell)∈names)∨acc.lookup y=some c
  | [],_,_,_,_,h=>.inr h
  | (nm,kd) :: r,n,acc,y,c,h=>by
    unfold cellsFrom at h
    split at h
    · rename_i hk
      rcases cf_lookup r _ _ h with ⟨a,b⟩ | a
      · exact .inl ⟨Nat.le_of_succ_le a,List.mem_cons_of_mem _ b⟩
      · rw [List.lookup_cons] at a
        cases hb:y == nm with
        | true =>
          rw [hb] at a
          cases a
          exact .inl ⟨Nat.le_refl _,by rw [beq_iff_eq.mp hb,show kd=.cell by simpa using hk]; exact List.mem_cons_self⟩
        | false=>rw [hb] at a; exact .inr a
    · rcases cf_lookup r _ _ h with ⟨a,b⟩ | a
      · exact .inl ⟨a,List.mem_cons_of_mem _ b⟩
      · exact .inr a
theorem cf_has:∀ (names:List (Str × NameKind)) (n:Nat) (acc:List (Str × Addr)) {y:Str},((acc.lookup y).isSome=true∨(y,NameKind.cell)∈names)→((cellsFrom n names acc).lookup y).isSome=true
  | [],_,_,_,h=>h.elim id fun z=>nomatch z
  | (nm,kd) :: r,n,acc,y,h=>by
    unfold cellsFrom
    split
    · rename_i hk
      refine cf_has r _ _ ?_
      cases hb:y == nm with
      | true=>left; rw [List.lookup_cons,hb]; rfl
      | false =>
        rcases h with h | h
        · left; rw [List.lookup_cons,hb]; exact h
        · right
          rcases List.mem_cons.mp h with e | h
          · have:y=nm:=congrArg Prod.fst e
            rw [this,beq_self_eq_true] at hb; cases hb
          · exact h
    · rename_i hk
      refine cf_has r _ _ ?_
      rcases h with h | h
      · exact .inl h
      · rcases List.mem_cons.mp h with e | h
        · exfalso
          have:kd=.cell:=(congrArg Prod.snd e).symm
          exact hk (by rw [this]; rfl)
        · exact .inr h
theorem cf_keep:∀ (names:List (Str × NameKind)) (n:Nat) (acc:List (Str × Addr)) {y:Str},(y,NameKind.cell) ∉ names→(cellsFrom n names acc).lookup y=acc.lookup y
  | [],_,_,_,_=>rfl
  | (nm,kd) :: r,n,acc,y,h=>by
    have h2:(y,NameKind.cell) ∉ r:=fun z=>h (List.mem_cons_of_mem _ z)
    unfold cellsFrom
    split
    · rename_i hk
      rw [cf_keep r _ _ h2,List.lookup_cons]
      cases hb:y == nm with
      | true=>exact absurd (by rw [beq_iff_eq.mp hb,show kd=.cell by simpa using hk]; exact List.mem_cons_self) h
      | false=>rfl
    · exact cf_keep r _ _ h2
theorem cf_inj:∀ (names:List (Str × NameKind)) (n:Nat) (acc:List (Str × Addr)),(∀ y c,acc.lookup y=some c→c < n)→(∀ x y c,acc.lookup x=some c→acc.lookup y=some c→x=y)→∀ x y c,(cellsFrom n names acc).lookup x=some c→(cellsFrom n names acc).lookup y=some c→x=y
  | [],_,_,_,h=>h
  | (nm,kd) :: r,n,acc,hl,h=>by
    unfold cellsFrom
    split
    · refine cf_inj r _ _ (fun y c e=>?_) (fun x y c e1 e2=>?_)
      · rw [List.lookup_cons] at e
        split at e
        · cases e; exact Nat.lt_succ_self n
        · exact Nat.lt_succ_of_lt (hl y c e)
      · rw [List.lookup_cons] at e1 e2
        cases b1:x == nm with
        | true =>
          rw [b1] at e1
          cases b2:y == nm with
          | true=>rw [beq_iff_eq.mp b1,beq_iff_eq.mp b2]
          | false =>
            rw [b2] at e2
            cases e1
            exact absurd (hl y _ e2) (Nat.lt_irrefl _)
        | false =>
          rw [b1] at e1
          cases b2:y == nm with
          | true =>
            rw [b2] at e2
            cases e2
            exact absurd (hl x _ e1) (Nat.lt_irrefl _)
          | false=>rw [b2] at e2; exact h x y c e1 e2
    · exact cf_inj r _ _ hl h
theorem cf_cell:∀ (names:List (Str × NameKind)) (h:Heap) (acc:List (Str × Addr)) {y:Str} {c:Addr},(cellsFrom h.objs.size names acc).lookup y=some c→h.objs.size≤c→(∀ y c,acc.lookup y=some c→c < h.objs.size)→(pushCells h names).IsCell c none
  | [],h,acc,y,c,e,z,hl=>absurd (hl y c e) (Nat.not_lt.mpr z)
  | (nm,kd) :: r,h,acc,y,c,e,z,hl=>by
    unfold cellsFrom at e
    unfold pushCells
    split at e
    · rename_i hk
      rw [if_pos hk]
      by_cases d:c=h.objs.size
      · exact ⟨_,pushCells_keeps r _ _ _ (d ▸ Heap.get?_push_size _ rfl),rfl⟩
      · refine cf_cell r (h.push { cls:=.type "cell",data:=.cell none }) ((nm,h.objs.size) :: acc) (y:=y) (by rw [Heap.size_push]; exact e) (by rw [Heap.size_push]; exact Nat.lt_of_le_of_ne z (Ne.symm d)) fun y c e=>?_
        rw [Heap.size_push]
        rw [List.lookup_cons] at e
        split at e
        · cases e; exact Nat.lt_succ_self _
        · exact Nat.lt_succ_of_lt (hl y c e)
    · rename_i hk
      rw [if_neg hk]
      exact cf_cell r h acc e z hl
theorem clOf_free {cells:List (Str × Addr)} {x:Str} {c:Addr} {names:List (Str × NameKind)} (h:(clOf names cells []).lookup x=some c):(x,NameKind.free)∈names:=by
  have key:∀ (names:List (Str × NameKind)) (acc:List (Str × Addr)),(clOf names cells acc).lookup x=some c→(x,NameKind.free)∈names∨acc.lookup x=some c:=by
    intro names
    induction names with
    | nil=>intro acc h; exact .inr h
    | cons y r ih =>
      intro acc h
      unfold clOf at h
      rw [List.foldl_cons] at h
      by_cases hk:(y.2 == NameKind.free)=true
      · rw [if_pos hk] at h
        cases hc:cells.lookup y.1 with
        | none =>
          rw [hc] at h
          exact (ih acc h).imp (List.mem_cons_of_mem _) id
        | some d =>
          rw [hc] at h
          rcases ih _ h with z | z
          · exact .inl (List.mem_cons_of_mem _ z)
          · rw [List.lookup_cons] at z
            cases hb:x == y.1 with
            | true=>exact .inl (by rw [beq_iff_eq.mp hb,← show y.2=.free by simpa using hk]; exact List.mem_cons_self)
            | false=>rw [hb] at z; exact .inr z
      · rw [if_neg hk] at h
        exact (ih acc h).imp (List.mem_cons_of_mem _) id
  rcases key names [] h with z | z
  · exact z
  · cases z
theorem relabel_back2 {env:Env}:∀ {names:List (Str × NameKind)} {x:Str},
    ((names.map fun (n,k)=>if (k == NameKind.free && env.scope.kind == .function && env.kindOf n == some .cell) then (n,NameKind.cell) else (n,k)).lookup x=some .cell ∨
    (names.map fun (n,k)=>if (k == NameKind.free && env.scope.kind == .function && env.kindOf n == some .cell) then (n,NameKind.cell) else (n,k)).lookup x=some .free)→(x,NameKind.free)∈names∨(x,NameKind.cell)∈names
  | [],_,h=>by simp at h
  | (n,k) :: r,x,h=>by
    have ih:=@relabel_back2 env r x
    rw [List.map_cons] at h
    dsimp only at h
    cases hx:x == n with
    | true =>
      have e:x=n:=by simpa using hx
      subst e
      by_cases hf:k=.free
      · subst hf; exact .inl List.mem_cons_self
      · have hb:(k == NameKind.free)=false:=by simpa using hf
        rw [hb] at h
        simp only [Bool.false_and,Bool.false_eq_true,if_false,List.lookup_cons,beq_self_eq_true] at h
        rcases h with h | h
        · right; rw [← Option.some.inj h]; exact List.mem_cons_self
        · exact absurd (Option.some.inj h) hf
    | false =>
      have:(x,NameKind.free)∈r∨(x,NameKind.cell)∈r:=ih (by split at h <;> simpa only [List.lookup_cons,hx] using h)
      exact this.imp (List.mem_cons_of_mem _) (List.mem_cons_of_mem _)
theorem wpAny_newFunctionEnvM {M:Model} {A:Around} {E:Value→Shared→Prop} {s:Shared} {scope:Scope} {globals:Addr} {closure:List (Str × Addr)} {qual:Str} {env:Env} {Q:Env→Shared→Prop}
    (h:Q (newEnv scope s.heap.objs.size globals (cellsFrom (s.heap.objs.size + 1) scope.names closure) qual none .none (some env) builtinsNs) { s with heap:=pushCells (s.heap.push { cls:=.type "dict",data:=.dict #[] }) scope.names }) :
    wpAny M A (newFunctionEnv scope globals closure [] qual none .none (some env)) Q E s:=by
  simp only [newFunctionEnv,Option.isSome_some,if_true]
  refine wpAny_bind (wpAny_alloc ?_)
  refine wpAny_bind (wpAny_layCells _ (fun name kind cells=>by cases hkc:kind == NameKind.cell <;> simp [hkc]) _ _ _ _ ?_)
  rw [show ({ s with heap:=s.heap.push { cls:=.type "dict",data:=.dict #[] } }:Shared).heap.objs.size=s.heap.objs.size + 1 from Heap.size_push ..]
  rw [List.forIn_nil]
  exact wpAny_bind (wpAny_pure (wpAny_pure h))
section
variable {X : Cx} {N N' : List Str} {osc scope : Scope} {k : Nat} {fr : List Nat} {pins : List (Addr × Obj)} {σ : St} {H2 : Hp} {s2 : Shared} {fp : List Addr} {xc : Str}
theorem cl_lt {names:List (Str × NameKind)} {y:Str} {c:Addr} (I:Inv X pins σ H2 s2) (h:(clOf names X.env.cells []).lookup y=some c):c < s2.heap.objs.size:=by
  obtain ⟨_,o,e,_⟩:=I.cell y c (clOf_l0 h)
  exact Heap.lt_size e
theorem comp_okM {C:Addr} {pn:List (Addr × Obj)} (S:CompScopeM N osc k N' fr scope xc) (hO:X.env.scope=osc) (hc:X.calm=true) (I:Inv X pins σ H2 s2) (hf:∀ b∈fp,FpOk X pins H2 b) (hlt:∀ b∈fp,b < s2.heap.objs.size) (hC:s2.heap.objs.size≤C) :
    (compXM X N' scope xc ⟨cellsFrom (C + 1) scope.names (clOf scope.names X.env.cells []),C,s2,H2,fp,pn⟩).Ok where
  mod:=I.ok.mod
  kind:=S.kind
  glob:=I.ok.glob
  blt:=I.ok.blt
  above:=hC
  inj:=cf_inj scope.names (C + 1) _ (fun y c h=>Nat.lt_succ_of_lt (Nat.lt_of_lt_of_le (cl_lt I h) hC)) (fun x y c h1 h2=>I.ok.inj x y c (clOf_l0 h1) (clOf_l0 h2))
  has:=fun x hx=>by
    refine Option.isSome_iff_exists.mp (cf_has scope.names (C + 1) _ ?_)
    rcases relabel_back2 (env:=X.env) hx with hx | hx
    · have:=S.free (x,.free) hx rfl
      rw [← hO] at this
      obtain ⟨c,hc⟩:=I.ok.has x this
      exact .inl (clOf_has hc _ _ (.inl hx))
    · exact .inr hx
  cab:=fun y c h1 h2=>by
    have e:y=xc:=by simpa using (show (y == xc)=true from h1)
    subst e
    rcases cf_lookup scope.names (C + 1) _ h2 with ⟨z,_⟩ | z
    · exact Nat.le_trans hC (Nat.le_of_succ_le z)
    · exfalso
      have z2:=clOf_free z
      exact S.xsep z2
  hd:=fun _=>I.ok.hd hc
  frames:=I.ok.frames
  stk:=.inl rfl
  exf:=fun b hb=>⟨Nat.ne_of_lt (Nat.lt_of_lt_of_le (hlt b hb) hC),fun x c h=>by
    rcases cf_lookup scope.names (C + 1) _ h with ⟨z,_⟩ | z
    · exact Nat.ne_of_gt (Nat.lt_of_lt_of_le (Nat.lt_of_lt_of_le (hlt b hb) hC) (Nat.le_of_succ_le z))
    · exact (hf b hb).2.2.2.2.1 x c (clOf_l0 z)⟩
  bs:=fun b o e=>I.bs b o e
  bsz:=Nat.le_trans I.ok.bsz I.sz
  noex:=fun b o e hb=>by
    rcases (hf b hb).2.2.2.1 with z | z
    · exact I.ok.noex b o e z
    · exact absurd (Nat.lt_of_lt_of_le (Heap.lt_size e) (Nat.le_trans I.ok.bsz z)) (Nat.lt_irrefl _)
  exfs:=fun b hb hz=>by
    rcases List.mem_cons.mp (I.stkSub b hz) with z | z
    · exact (hf b hb).2.1 z
    · exact (hf b hb).2.2.1 z
  funs:=I.stack
  frf:=I.stkFree
theorem comp_invM {C:Addr} {h4:Heap} {tk:Nat} {m:Str→Option Value} {pl:List (Addr × Obj)} (S:CompScopeM N osc k N' fr scope xc) (hN:X.N=N) (hO:X.env.scope=osc) (hc:X.calm=true) (I:Inv X pins σ H2 s2) (hf:∀ b∈fp,FpOk X pins H2 b) (hlt:∀ b∈fp,b < s2.heap.objs.size) (hC:s2.heap.objs.size≤C)
    (kk:∀ b o,s2.heap.get? b=some o→h4.get? b=some o) (hn:h4.Ns C m)
    (hcells:∀ y c,(cellsFrom (C + 1) scope.names (clOf scope.names X.env.cells [])).lookup y=some c→C + 1≤c→h4.IsCell c none)
    (hpl:∀ p∈pl,h4.get? p.1=some p.2∧s2.heap.objs.size≤p.1∧p.1≠C∧∀ v,p.2.data≠.cell v) :
    Inv (compXM X N' scope xc ⟨cellsFrom (C + 1) scope.names (clOf scope.names X.env.cells []),C,s2,H2,fp,X.pn ++ pins⟩) pl (slots k fr σ) H2 { s2 with heap:=h4,toks:=tk } where
  ok:=comp_okM S hO hc I hf hlt hC
  os:=rfl
  bare:=I.bare
  base:=Un.kept kk
  loc:=by
    refine ⟨m,hn,fun i x v h1 h2 _=>?_⟩
    have h1:N'[i]?=some x:=h1
    unfold slots at h2
    by_cases hi:i < k
    · rw [List.getElem?_append_left (by simpa using hi),List.getElem?_replicate,if_pos hi] at h2
      cases h2
    · rw [List.getElem?_append_right (by simpa using Nat.le_of_not_lt hi),List.length_replicate,List.getElem?_map] at h2
      cases hj:fr[i - k]? with
      | none=>rw [hj] at h2; cases h2
      | some j =>
        rw [hj] at h2
        have h2:(σ[j]?).join=some v:=Option.some.inj h2
        have h2:σ[j]?=some (some v):=by
          cases q:σ[j]? with
          | none=>rw [q] at h2; cases h2
          | some z=>rw [q] at h2; exact congrArg some h2
        have hd:(N'.drop k)[i - k]?=some x:=by
          rw [List.getElem?_drop]
          rw [show k + (i - k)=i by omega]
          exact h1
        have hx:N[j]?=some x:=by
          have:=congrArg (fun l=>l[i - k]?) S.sl
          simp only [List.getElem?_map,hj,hd,Option.map_some] at this
          exact Option.some.inj this
        have hfx:=S.fre x (List.mem_of_getElem? hd)
        have ho:=S.free (x,.free) (PySem.mem_of_lookup hfx) rfl
        rw [← hO] at ho
        obtain ⟨m0,hn0,hl0⟩:=I.loc
        obtain ⟨u,ru,lu⟩:=hl0 j x v (by rw [hN]; exact hx) h2 (.inr ho)
        refine ⟨u,ru,.inr ⟨relabel_free hfx,?_⟩⟩
        rcases lu with ⟨z,_⟩ | ⟨_,c,hcl,hcell⟩
        · exfalso
          have z:X.env.scope.names.lookup x=some .local:=z
          rcases ho with ho | ho <;> (rw [show X.env.scope.names.lookup x=_ from ho] at z; cases z)
        · obtain ⟨c',hc'⟩:=Option.isSome_iff_exists.mp (clOf_has hcl _ [] (.inl (PySem.mem_of_lookup hfx)))
          have:=clOf_l0 hc'
          rw [hcl] at this
          cases this
          obtain ⟨o,e,d⟩:=hcell
          exact ⟨_,by rw [show (compXM X N' scope xc ⟨cellsFrom (C + 1) scope.names (clOf scope.names X.env.cells []),C,s2,H2,fp,X.pn ++ pins⟩).env.cells=cellsFrom (C + 1) scope.names (clOf scope.names X.env.cells []) from rfl,cf_keep _ _ _ (S.sep x (List.mem_of_getElem? hd))]; exact hc',o,kk _ _ e,d⟩
  cell:=fun x c h=>by
    rcases cf_lookup scope.names (C + 1) _ h with ⟨z,_⟩ | z
    · exact ⟨none,hcells x c h z⟩
    · obtain ⟨v,o,e,d⟩:=I.cell x c (clOf_l0 z)
      exact ⟨v,o,kk _ _ e,d⟩
  free:=I.hok.fresh hC
  freeC:=fun x c h=>by
    rcases cf_lookup scope.names (C + 1) _ h with ⟨z,_⟩ | z
    · exact I.hok.fresh (Nat.le_trans hC (Nat.le_of_succ_le z))
    · exact I.freeC x c (clOf_l0 z)
  pin:=fun p hp=>by
    rcases List.mem_append.mp hp with hp | hp
    · obtain ⟨e,n,ne,nf,d⟩:=I.pin p hp
      refine ⟨kk _ _ e,n,Nat.ne_of_lt (Nat.lt_of_lt_of_le (Heap.lt_size e) hC),fun z=>?_,d⟩
      rcases List.mem_cons.mp (I.stkSub p.1 z) with z | z
      · exact ne z
      · exact nf z
    · obtain ⟨e,a,ne,d⟩:=hpl p hp
      refine ⟨e,I.hok.fresh a,ne,fun z=>?_,d⟩
      rcases List.mem_cons.mp (I.stkSub p.1 z) with z | z
      · exact Nat.ne_of_gt (Nat.lt_of_lt_of_le I.lt a) z
      · exact I.nofs a z
  hok:=I.hok.kept kk
  len:=by
    unfold slots
    rw [List.length_append,List.length_replicate,List.length_map]
    exact S.len.symm
  kno:=fun _ _ z=>nomatch z
theorem comp_backM {C D:Addr} {H':Hp} {s':Shared} {h'':Heap} {σ':St} {pl:List (Addr × Obj)} {ys:List V} {its:List Value} {n:Nat}
    (I:Inv X pins σ H2 s2) (hf:∀ b∈fp,FpOk X pins H2 b) (hC:s2.heap.objs.size≤C) (hD:s2.heap.objs.size≤D) (hCD:C≠D)
    (J:Inv (compXM X N' scope xc ⟨cellsFrom (C + 1) scope.names (clOf scope.names X.env.cells []),C,s2,H2,fp,X.pn ++ pins⟩) pl σ' H' s') (hp:(D,lo its n)∈pl) (r:Vals ys its) (hz:ys.length≤sizeLine) (hs:Heap.SameBut C s'.heap h'') :
    Inv X pins σ (upd H' D (.lst ys)) { s' with heap:=h'' }:=by
  have ltC:∀ b o,s2.heap.get? b=some o→b≠C:=fun b o e=>Nat.ne_of_lt (Nat.lt_of_lt_of_le (Heap.lt_size e) hC)
  have ltD:∀ b o,s2.heap.get? b=some o→b≠D:=fun b o e=>Nat.ne_of_lt (Nat.lt_of_lt_of_le (Heap.lt_size e) hD)
  obtain ⟨eD,nD,_,_,_⟩:=J.pin (D,lo its n) (List.mem_append_right _ hp)
  have u:Un (frs X.stack) fp H2 H' s2.heap s'.heap:=J.base
  have u2:Un (frs X.stack) fp H2 (upd H' D (.lst ys)) s2.heap h'':=⟨
    fun b o e n hb hx=>hs.extBut b o (ltC b o e) (u.keep b o e n hb hx),
    fun b o e n hb hx=>let ⟨sl,q⟩:=u.slot b o e n hb hx; ⟨sl,hs.extBut b _ (ltC b o e) q⟩,
    fun b o e n hx=>by rw [upd_ne (ltD b o e)]; exact u.free b o e n hx,
    fun b o e hx=>let ⟨o',q⟩:=u.there b o e hx; ⟨o',hs.extBut b _ (ltC b o e) q⟩,
    fun b xs e=>by rw [upd_ne (ne_of_none (u.tups b xs e) nD)]; exact u.tups b xs e,
    fun b o v e=>by rw [upd_ne (ne_of_none (u.frzs b o v e) nD)]; exact u.frzs b o v e,
    fun b ps e=>let ⟨m,q⟩:=u.tbls b ps e; ⟨m,by rw [upd_ne (ne_of_none q nD)]; exact q⟩⟩
  have ok2:HOk X.prog X.w (upd H' D (.lst ys)) h'':=by
    refine HOk.track (P:=X.prog) (w:=X.w) J.hok (ch:=[C]) (fun b o hb e=>hs.extBut b o (by simpa using hb) e) (fun b hb=>?_) nD ⟨hz,its,n,r,hs.extBut _ _ (Ne.symm hCD) eD⟩
    rw [List.mem_singleton.mp hb]; exact J.free
  exact I.call' (s':={ s' with heap:=h'' }) (ch:=fp) J.os u2 ok2 J.bare fun b hb=>let ⟨_,f1,_,f3,f4,f5⟩:=hf b hb; ⟨f3,f1,f4,f5⟩
theorem comp_blockM {elt tg iter:Expr} {ifs:List Expr} {pos:Pos} {J:It} {it:Addr} {tn:Nat→Heap→Prop} {g:CA→TG} {tt:CA→TT} {te:CA→TE} {W:Nat→Nat→List V→Hp→Prop} {F:List V→Hp→Prop}
    {RR:Value→Addr→Result→Shared→Prop} {E:Value→Shared→Prop}
    (S:CompScopeM N osc k N' fr scope xc) (hN:X.N=N) (hO:X.env.scope=osc) (hc:X.calm=true) (I:Inv X pins σ H2 s2) (T:Turn X.prog X.w X.K tg J fp it tn) (st2:tn 0 s2.heap) (hf:∀ b∈fp,FpOk X pins H2 b)
    (hb:∀ ca,PG (compXM X N' scope xc ca) tg (g ca)∧PTs (compXM X N' scope xc ca) ifs (tt ca)∧PE (compXM X N' scope xc ca) elt (te ca))
    (w0:∃ m,W 0 m [] H2) (turn:CTurn J k fr σ g tt te W F)
    (hRR:∀ D C h4 σ' H' s' pl ys its n m,s2.heap.objs.size≤C→s2.heap.objs.size≤D→C≠D→Inv (compXM X N' scope xc ⟨cellsFrom (C + 1) scope.names (clOf scope.names X.env.cells []),C,s2,H2,fp,X.pn ++ pins⟩) pl σ' H' s'→(D,lo its n)∈pl→Vals ys its→ys.length≤sizeLine →
      s'.heap.Ns C m→F ys H'→h4=s'.heap→RR (.ref D) C (.ok .next) s') :
    wpAny (model X.prog X.w) X.A (newList []) (fun acc s3=>wpAny (model X.prog X.w) X.A (newFunctionEnv scope X.env.globals (clOf scope.names X.env.cells []) [] X.env.qual none .none (some X.env)) (fun cenv s4 =>
      codeAny (model X.prog X.w) X.A (.compStart (.ListComp elt [⟨tg,iter,ifs,0⟩] scope pos) 0 (.ref it) acc { cenv with scope:=relabel scope X.env }) (RR acc cenv.locals) s4) E s3) E s2:=by
  refine wpAny_newObj_type (wpAny_newFunctionEnvM ?_)
  dsimp only
  generalize hH3:s2.heap.push { cls:=.type "list",dict:=none,data:=.seq ([]:List Value).toArray }=H3
  generalize h4e:pushCells (H3.push { cls:=.type "dict",data:=.dict #[] }) scope.names=h4
  have hn4:h4.Ns H3.objs.size (fun _=>none):=h4e ▸ (Heap.Ns.new H3 (.type "dict")).keeps (pushCells_keeps _ _)
  have k34:∀ b o,H3.get? b=some o→h4.get? b=some o:=fun b o e=>h4e ▸ pushCells_keeps _ _ b o (Heap.get?_push_of_some _ e)
  have hCz:H3.objs.size=s2.heap.objs.size + 1:=by rw [← hH3,Heap.size_push]
  have hC:s2.heap.objs.size≤H3.objs.size:=by rw [hCz]; exact Nat.le_succ _
  have hCD:H3.objs.size≠s2.heap.objs.size:=by rw [hCz]; exact Nat.succ_ne_self _
  have hlt:∀ b∈fp,b < s2.heap.objs.size:=fun b hb=>let ⟨_,e,_⟩:=T.obj _ _ st2 b hb; Heap.lt_size e
  have kk:∀ b o,s2.heap.get? b=some o→h4.get? b=some o:=fun b o e=>k34 b o (hH3 ▸ Heap.get?_push_of_some _ e)
  have hacc:h4.get? s2.heap.objs.size=some (lo [] 0):=k34 _ _ (hH3 ▸ Heap.get?_push_size _ rfl)
  have hcells:∀ y c,(cellsFrom (H3.objs.size + 1) scope.names (clOf scope.names X.env.cells [])).lookup y=some c→H3.objs.size + 1≤c→h4.IsCell c none:=fun y c h z=>by
    have:=cf_cell scope.names (H3.push { cls:=.type "dict",data:=.dict #[] }) (clOf scope.names X.env.cells []) (y:=y) (c:=c) (by rw [Heap.size_push]; exact h) (by rw [Heap.size_push]; exact z) (fun y c h=>by rw [Heap.size_push]; exact Nat.lt_succ_of_lt (Nat.lt_of_lt_of_le (cl_lt I h) hC))
    rw [h4e] at this; exact this
  generalize hX':compXM X N' scope xc ⟨cellsFrom (H3.objs.size + 1) scope.names (clOf scope.names X.env.cells []),H3.objs.size,s2,H2,fp,X.pn ++ pins⟩=X' at hRR
  have eL:X'.env.locals=H3.objs.size:=by rw [← hX']; rfl
  have I4:∀ tk,Inv X' [(s2.heap.objs.size,lo [] 0)] (slots k fr σ) H2 { s2 with heap:=h4,toks:=tk }:=fun tk=>by
    rw [← hX']
    refine comp_invM S hN hO hc I hf hlt hC kk hn4 hcells fun p hp=>?_
    rw [List.mem_singleton.mp hp]
    exact ⟨hacc,Nat.le_refl _,Ne.symm hCD,fun v z=>by
      have z':Data.seq _ _=Data.cell v:=z
      cases z'⟩
  have st4:tn 0 h4:=T.keep _ _ _ st2 fun b _ o e=>kk b o e
  have fpo:∀ {pl:List (Addr × Obj)} {H:Hp},(∀ b∈fp,H b=none)→(∀ p∈pl,p.1=s2.heap.objs.size)→∀ b∈fp,FpOk X' pl H b:=fun {pl H} hn hpl b hb=>by
    obtain ⟨_,f1,f2,f3,f4,f5⟩:=hf b hb
    rw [← hX']
    refine ⟨hn b hb,Nat.ne_of_lt (Nat.lt_of_lt_of_le (hlt b hb) hC),fun z=>?_,.inl hb,fun x c h=>?_,fun p hp z=>?_⟩
    · rcases List.mem_cons.mp (I.stkSub b z) with z | z
      · exact f1 z
      · exact f2 z
    · rcases cf_lookup scope.names (H3.objs.size + 1) _ h with ⟨y,_⟩ | y
      · exact Nat.ne_of_gt (Nat.lt_of_lt_of_le (Nat.lt_of_lt_of_le (hlt b hb) hC) (Nat.le_of_succ_le y))
      · exact f4 x c (clOf_l0 y)
    · rcases List.mem_append.mp hp with hp | hp
      · exact f5 p hp z
      · have:=hpl p hp
        rw [z] at this
        exact Nat.ne_of_lt (hlt b hb) this
  have hcX:X'.calm=true:=by rw [← hX']; rfl
  have loop:∀ s3:Shared,(∃ tk,s3={ s2 with heap:=h4,toks:=tk }) →
      codeAny (model X.prog X.w) X.A (.compLoop (.ListComp elt [⟨tg,iter,ifs,0⟩] scope pos) 0 (.ref it) (.ref s2.heap.objs.size) (compEnvC scope (cellsFrom (H3.objs.size + 1) scope.names (clOf scope.names X.env.cells [])) H3.objs.size X.env))
        (RR (.ref s2.heap.objs.size) H3.objs.size) s3:=by
    rintro s3 ⟨tk,rfl⟩
    obtain ⟨m0,w0⟩:=w0
    refine compLoop_any (fun n s'=>∃ i ys its nn H',Inv X' [(s2.heap.objs.size,lo its nn)] (slots k fr σ) H' s'∧Vals ys its∧tn i s'.heap∧(∀ b∈fp,H' b=none)∧W i n ys H') ?_ m0
      ⟨0,[],[],0,H2,I4 tk,.nil,st4,fun b hb=>(hf b hb).1,w0⟩
    rintro n s5 ⟨i,ys,its,nn,H5,I5,r5,st5,fr5,w5⟩
    obtain ⟨hz,tca⟩:=turn i n ys H5 w5
    have e1:X'.prog=X.prog:=by rw [← hX']; rfl
    have e2:X'.w=X.w:=by rw [← hX']; rfl
    have e3:X'.K=X.K:=by rw [← hX']; rfl
    have e4:X'.A=X.A:=by rw [← hX']; rfl
    have e5:X'.xe=fun _ _=>False:=by rw [← hX']; rfl
    have e6:X'.env=compEnvC scope (cellsFrom (H3.objs.size + 1) scope.names (clOf scope.names X.env.cells [])) H3.objs.size X.env:=by rw [← hX']; rfl
    have one:∀ (its:List Value) (nn:Nat),∀ p∈[(s2.heap.objs.size,lo its nn)],p.1=s2.heap.objs.size:=fun its nn p hp=>by rw [List.mem_singleton.mp hp]
    rcases tca ⟨cellsFrom (H3.objs.size + 1) scope.names (clOf scope.names X.env.cells []),H3.objs.size,s2,H2,fp,X.pn ++ pins⟩ with ⟨stop,fin⟩ | ⟨go,hzz,Nx,nx1,nx2,step⟩
    · have:=T.done X' e1 e2 e3 hcX i _ s5 _ H5 (fun _ _=>False) I5 (fpo fr5 (one its nn)) st5 stop
      rw [e4] at this
      refine thn this fun r s6 ⟨hr,I6⟩=>?_
      subst hr
      obtain ⟨m,hn,_⟩:=I6.loc
      rw [eL] at hn
      exact hRR _ _ s6.heap _ H5 s6 _ ys its nn m hC (Nat.le_refl _) hCD (hX' ▸ I6) List.mem_cons_self r5 hz hn fin rfl
    · have:=T.item X' e1 e2 e3 hcX i _ s5 _ H5 (fun _ _=>False) I5 (fpo fr5 (one its nn)) st5 go
      rw [e4] at this
      refine thn this fun r s6 ⟨u,hr,h6⟩=>?_
      subst hr
      refine thn h6 fun _ s7 ⟨x,H7,I7,r7,y7,st7,fr7⟩=>?_
      have I7':=I7.pinned (fpo fr7 (one its nn)) (T.obj _ _ st7)
      obtain ⟨bg,bt,be⟩:=hb ⟨cellsFrom (H3.objs.size + 1) scope.names (clOf scope.names X.env.cells []),H3.objs.size,s2,H2,fp,X.pn ++ pins⟩
      rw [hX'] at bg bt be
      have:=bg _ s7 _ H7 x u _ I7' r7 (step x H7 y7)
      rw [e1,e2,e4,e5,e6] at this
      refine thn this fun _ s8 ⟨σ8,H8,I8,⟨d1,d2⟩,q8⟩=>?_
      have:=bt _ s8 σ8 H8 _ I8 q8
      rw [e1,e2,e4,e5,e6] at this
      refine thn this fun ok s9 ⟨H9,I9,q9⟩=>?_
      have wk:∀ {H:Hp} {s:Shared},Inv X' ([(s2.heap.objs.size,lo its nn)] ++ pinsAt fp s7.heap) σ8 H s→Inv X' ([(s2.heap.objs.size,lo its nn)] ++ pinsAt fp s7.heap) (slots k fr σ) H s:=fun J =>
        J.weak (by unfold slots; rw [List.length_append,List.length_replicate,List.length_map]; exact d2.symm) (slots_weak d1) fun _ _ z=>by rw [← hX'] at z; cases z
      have tnk:∀ {H:Hp} {s:Shared} {σ9:St},Inv X' ([(s2.heap.objs.size,lo its nn)] ++ pinsAt fp s7.heap) σ9 H s→tn (i + 1) s.heap∧∀ b∈fp,H b=none:=fun J=>⟨T.keep _ _ _ st7 fun b hb o e=>(J.pin (b,o) (List.mem_append_right _ (List.mem_append_right _ (mem_pinsAt hb e)))).1,fun b hb=>by
        obtain ⟨o,e,d⟩:=T.obj _ _ st7 b hb
        exact (J.pin (b,o) (List.mem_append_right _ (List.mem_append_right _ (mem_pinsAt hb e)))).2.1⟩
      cases ok with
      | false =>
        rw [if_neg Bool.false_ne_true]
        obtain ⟨m',hm,w9⟩:=nx2 _ q9
        exact ⟨m',hm,i + 1,ys,its,nn,H9,(wk I9).unpinned,r5,(tnk I9).1,(tnk I9).2,w9⟩
      | true =>
        rw [if_pos rfl]
        have:=be _ s9 σ8 H9 _ I9 q9
        rw [e1,e2,e4,e5,e6] at this
        refine thn this fun u10 s10 ⟨v,H10,I10,r10,q10⟩=>?_
        obtain ⟨m',hm,w10⟩:=nx1 _ _ q10
        have p10:=I10.pin (s2.heap.objs.size,lo its nn) (List.mem_append_right _ (List.mem_append_left _ List.mem_cons_self))
        have hl:its.length=ys.length:=r5.length.symm
        refine append_at (hsz:=by rw [List.size_toArray,hl]; exact Nat.le_of_lt hzz) p10.1 fun h11 hs11 hD11=>?_
        obtain ⟨t10,f10⟩:=tnk I10
        have J:Inv X' [] (slots k fr σ) H10 s10:=(wk I10).pins_of fun p hp=>nomatch hp
        have ck:∀ x c,X'.env.cells.lookup x=some c→c≠s2.heap.objs.size:=fun x c h=>by
          rw [e6] at h
          rcases cf_lookup scope.names (H3.objs.size + 1) _ h with ⟨y,_⟩ | y
          · exact Nat.ne_of_gt (Nat.lt_of_lt_of_le (Nat.lt_succ_self _) (Nat.le_trans (by rw [hCz]; exact Nat.le_succ _) y))
          · exact Nat.ne_of_lt (cl_lt I y)
        have ns:X'.s₀=s2:=by rw [← hX']; rfl
        have J2:Inv X' [] (slots k fr σ) H10 { s10 with heap:=h11,toks:=s10.toks }:=J.turned (fun b o hb e=>(hs11.2 b hb).trans e) p10.2.1 (by rw [eL]; exact Ne.symm hCD) (.inr (by rw [ns]; exact Nat.le_refl _)) (fun x c h=>ck x c h) fun p hp z=>by
          rcases List.mem_append.mp hp with hp | hp
          · rw [← hX'] at hp
            have hp:p∈X.pn ++ pins:=hp
            exact Nat.ne_of_lt (Heap.lt_size (I.pin p hp).1) z
          · cases hp
        refine ⟨m',hm,i + 1,ys ++ [v],its ++ [u10],nn + 1,H10,J2.pins_of fun p hp=>?_,r5.append (.cons r10 .nil),T.keep _ _ _ t10 fun b hb o e=>(hs11.2 b (Nat.ne_of_lt (hlt b hb))).trans e,f10,w10⟩
        rw [List.mem_singleton.mp hp]
        refine ⟨?_,p10.2.1,p10.2.2.1,p10.2.2.2.1,fun v z=>by
          have z':Data.seq _ _=Data.cell v:=z
          cases z'⟩
        show h11.get? s2.heap.objs.size=some (lo (its ++ [u10]) (nn + 1))
        rw [hD11]
        simp [lo]
  exact codeAny_compStart_list (loop _ ⟨_,rfl⟩) (T.self _ 0 _ _ _ st4 (loop _ ⟨_,rfl⟩))
end
section
variable {X : Cx} {N N' : List Str} {osc scope : Scope} {k : Nat} {fr : List Nat} {elt tg iter : Expr} {ifs : List Expr} {pos : Pos} {wi : TI} {g : CA → TG} {tt : CA → TT} {te : CA → TE} {xc : Str}
theorem ps_setCM {i:Nat} {x:Str} {pos' spos:Pos} (hNd:X.N.Nodup) (hix:X.N[i]?=some x) (hx:X.env.scope.names.lookup x=some .local) (S:CompScopeM N osc k N' fr scope xc) (hN:X.N=N) (hO:X.env.scope=osc) (hc:X.calm=true) (hi:PI X tg iter wi)
    (hb:∀ ca,PG (compXM X N' scope xc ca) tg (g ca)∧PTs (compXM X N' scope xc ca) ifs (tt ca)∧PE (compXM X N' scope xc ca) elt (te ca))
    (hsw:swapsWith (.ListComp elt [⟨tg,iter,ifs,0⟩] scope pos) (some (.Name x pos')) spos.line X.env=pure true:=by rfl) (hkn:X.kn i=Option.none:=by rfl)
    (hs:∀ x,foldedSetIterable iter X.env x=pure x:=by intro _; rfl):PS X (.Assign [.Name x pos'] (.ListComp elt [⟨tg,iter,ifs,0⟩] scope pos) spos) (tAsg (tComp wi k fr g tt te) (gName i)):=by
  intro pins s σ H D0 I h
  have hcl:closureFor scope X.env=pure (clOf scope.names X.env.cells []):=closureFor_of fun y hy hf=>by
    have:=S.free y hy hf
    rw [← hO] at this
    exact I.ok.has y.1 this
  rw [exec_Assign_Name_used _ _ _ _ hsw]
  refine wpAny_bind (wpAny_standAt (wpAny_bind ?_))
  show wpAny _ X.A (do let _ ← comprehension (.ListComp elt [⟨tg,iter,ifs,0⟩] scope pos) scope X.env _ (newList []) false (eval iter X.env) (some (assign (.Name x pos') X.env))) _ _ s
  refine wpAny_bind (thn (wpAny_comprehension_free (use:=some (assign (.Name x pos') X.env)) (Q:=fun _ s'=>SP X pins D0 .next s') rfl hs hcl S.kind S.names (thn (hi pins s σ H _ I h) fun v s1 h1=>thn h1 fun itv s2 h2=>?_))
    fun _ s' hq=>wpAny_pure (wpAny_pure hq))
  obtain ⟨it,fp,tn,J,H2,e,I2,T,st2,f2,W,w0,turn⟩:=h2
  subst e
  refine comp_blockM S hN hO hc I2 T st2 f2 hb w0 turn fun D C h4 σ' H' s' pl ys its n m hC hD hCD J hp r hz hn fin _=>?_
  have nD:=(J.pin _ (List.mem_append_right _ hp)).2.1
  have B:Inv X pins σ (upd H' D (.lst ys)) s':=comp_backM (h'':=s'.heap) I2 f2 hC hD hCD J hp r hz ⟨rfl,fun _ _=>rfl⟩
  obtain ⟨oC,es,ep,eC,dC,rC⟩:=hn
  have cL:C≠X.env.locals:=Nat.ne_of_gt (Nat.lt_of_lt_of_le I2.lt hC)
  have B2:Inv X (pins ++ [(C,oC)]) σ (upd H' D (.lst ys)) s':=B.pins_of fun p hp2=>by
    rcases List.mem_append.mp hp2 with hp2 | hp2
    · exact B.pin p (List.mem_append_right _ hp2)
    · rw [List.mem_singleton.mp hp2]
      exact ⟨eC,by rw [upd_ne hCD]; exact J.free,cL,I2.nofs hC,fun v z=>by rw [dC] at z; cases z⟩
  refine wpAny_assign_Name (store_ok B2 hNd hix (.inl hx) (v:=.ref D) (u:=.ref D) rfl (fun s5 I5=>?_) (.inr hx) hkn)
  have p5:=I5.pin (C,oC) (List.mem_append_right _ (List.mem_append_right _ List.mem_cons_self))
  refine ⟨m,⟨oC,es,ep,p5.1,dC,rC⟩,fun h'' hs''=>⟨_,_,(I5.unpinned).turned (t':=s5.toks) (it:=C) (fun b o hb e=>hs''.extBut b o hb e) p5.2.1 p5.2.2.1 (.inr ?_) (fun y c hy z=>?_) (fun p hp2 z=>?_),fin D nD⟩⟩
  · exact Nat.le_trans I2.sz hC
  · obtain ⟨_,o,e,_⟩:=I2.cell y c hy
    exact Nat.ne_of_lt (Nat.lt_of_lt_of_le (Heap.lt_size e) hC) z
  · exact Nat.ne_of_lt (Nat.lt_of_lt_of_le (Heap.lt_size (I2.pin p hp2).1) hC) z
end
end L2
namespace L2
open PySem PySem.Spec PyProof.Rows
def relK (scope osc:Scope):Scope:={ scope with names:=scope.names.map fun (n,k)=>if (k == .free && osc.kind == .function && osc.names.lookup n == some .cell) then (n,.cell) else (n,k) }
theorem relK_eq {X:Cx} {N':List Str} {scope osc:Scope} {xc:Str} {ca:CA} (h:X.env.scope=osc):(compXM X N' scope xc ca).env.scope=relK scope osc:=by subst h; rfl
end L2
namespace Ws
inductive Wd where
  | non | int (i:Int) | pair (a b:Int)
  deriving DecidableEq
inductive Kd where
  | fewest | widest | counted | likeliest | chances | musts | rests (m:Nat)
  deriving DecidableEq
def isShare:Wd→Bool
  | .pair a b=>decide (0 < b) && decide (Int.gcd a b=1)
  | _=>false
def isFrom:Wd→Int→Bool
  | .int i,l=>decide (l≤i)
  | _,_=>false
def isWorth:Kd→Wd→Bool
  | .fewest,w=>decide (w=.non) || isFrom w 0
  | .widest,.int i=>decide (0≤i) && decide (i≤1000000000)
  | .counted,w=>isFrom w (-1)
  | .likeliest,.pair a b=>isShare (.pair a b) && (decide (0≤a) && decide (a≤b))
  | .chances,.pair a b=>isShare (.pair a b) && decide (0≤a)
  | .musts,w=>decide (w=.non) || isFrom w 0
  | .rests m,.int i=>decide (0≤i) && decide (i < 2 ^ m)
  | _,_=>false
def KdOk:Kd→Prop
  | .rests m=>1≤m∧m≤12
  | _=>True
def kdOf (which:Int) (m:Int):Kd :=
  if which=0 then .fewest else if which=1 then .widest else if which=2 then .counted else if which=3 then .likeliest else if which=4 then .chances else if which=5 then .musts else .rests m.toNat
def shareW (t b:Int):Wd:=.pair (t / (Int.gcd t b:Int)) (b / (Int.gcd t b:Int))
def noneW (which:Int):Wd:=if which=0∨which=5 then .non else if which=3∨which=4 then .pair 0 1 else .int 0
def restW (which:Int):Wd:=if which=0∨which=5 then .int 0 else if which=1 then .int 1000000000 else if which=3∨which=4 then .pair 1 1 else .int 1
def worthW (which m cell:Int):Wd :=
  if cell % 6=1 then noneW which else if cell % 6=2 then restW which
  else if which=0 then .int (if cell % 6 < 5 then cell / 6 % 20 else cell / 6 % 10 ^ 30)
  else if which=1 then .int (if cell % 6 < 5 then cell / 6 % 20 else cell / 6 % (10 ^ 9 + 1))
  else if which=2 then .int (if cell % 6 < 5 then cell / 6 % 5 - 1 else cell / 6 % 10 ^ 30)
  else if which=3 then shareW (cell / 6 % (1 + cell / 6 / 7 % 12 + 1)) (1 + cell / 6 / 7 % 12)
  else if which=4 then shareW (cell / 6 % 9) (1 + cell / 6 / 9 % 12)
  else if which=5 then .int (if cell % 6 < 5 then cell / 6 % 16 else cell / 6 % 10 ^ 30)
  else .int (cell / 6 % 2 ^ m.toNat)
theorem gcd_step (x y:Int):Int.gcd y (x % y)=Int.gcd x y:=by
  rw [Int.gcd_comm x y]
  refine Int.gcd_right_eq_iff.mpr fun c hc=>?_
  have e:x=x % y + y * (x / y):=(Int.emod_add_mul_ediv x y).symm
  have h2:c ∣ y * (x / y):=Int.dvd_trans hc (Int.dvd_mul_right _ _)
  constructor
  · intro h; rw [e]; exact Int.dvd_add h h2
  · intro h
    have:x % y=x - y * (x / y):=by omega
    rw [this]; exact Int.dvd_sub h h2
theorem gcd_pos {a b:Int} (h:0 < b):0 < (Int.gcd a b:Int):=by
  have:0 < Int.gcd a b:=Int.gcd_pos_iff.mpr (.inr (by omega))
  exact Int.natCast_pos.mpr this
theorem shareW_bounds {t b:Int} (ht:0≤t) (h:0 < b):∃ x y,shareW t b=.pair x y∧0≤x∧x≤t∧0 < y∧y≤b∧(t≤b→x≤y)∧Int.gcd x y=1:=by
  have g:=gcd_pos (a:=t) h
  have hb:(Int.gcd t b:Int) ∣ b:=Int.gcd_dvd_right ..
  refine ⟨_,_,rfl,Int.ediv_nonneg ht (Int.le_of_lt g),Int.ediv_le_self _ ht,Int.ediv_pos_of_pos_of_dvd h (Int.le_of_lt g) hb,Int.ediv_le_self _ (Int.le_of_lt h),fun le=>Int.ediv_le_ediv g le,?_⟩
  exact Int.gcd_ediv_gcd_ediv_gcd (by exact_mod_cast g)
theorem isWorth_none {which m:Int} (h0:0≤which) (h7:which < 7):isWorth (kdOf which m) (noneW which)=true:=by
  have:which=0∨which=1∨which=2∨which=3∨which=4∨which=5∨which=6:=by omega
  rcases this with rfl | rfl | rfl | rfl | rfl | rfl | rfl <;> simp [kdOf,noneW,isWorth,isShare,isFrom]
  exact Int.pow_pos (by decide)
theorem isWorth_rest {which m:Int} (h0:0≤which) (h7:which < 7) (hm:1≤m):isWorth (kdOf which m) (restW which)=true:=by
  have:which=0∨which=1∨which=2∨which=3∨which=4∨which=5∨which=6:=by omega
  rcases this with rfl | rfl | rfl | rfl | rfl | rfl | rfl <;> simp [kdOf,restW,isWorth,isShare,isFrom]
  obtain ⟨k,hk⟩:∃ k:Nat,m.toNat=k + 1:=⟨m.toNat - 1,by omega⟩
  rw [hk,Int.pow_succ]
  have:(0:Int) < 2 ^ k:=Int.pow_pos (by decide)
  omega
theorem isWorth_worth {which m cell:Int} (h0:0≤which) (h7:which < 7) (hm:1≤m):isWorth (kdOf which m) (worthW which m cell)=true:=by
  unfold worthW
  split
  · exact isWorth_none h0 h7
  split
  · exact isWorth_rest h0 h7 hm
  have e30:∀ c:Int,0≤c % 10 ^ 30:=fun c=>Int.emod_nonneg _ (by decide)
  have:which=0∨which=1∨which=2∨which=3∨which=4∨which=5∨which=6:=by omega
  rcases this with rfl | rfl | rfl | rfl | rfl | rfl | rfl
  · simp only [kdOf,isWorth,isFrom,if_true]
    have:=e30 (cell / 6)
    split <;> simp <;> omega
  · simp [kdOf,isWorth]
    split <;> omega
  · simp [kdOf,isWorth,isFrom]
    have:=e30 (cell / 6)
    split <;> omega
  · obtain ⟨x,y,e,a1,a2,a3,a4,a5,a6⟩:=shareW_bounds (t:=cell / 6 % (1 + cell / 6 / 7 % 12 + 1)) (b:=1 + cell / 6 / 7 % 12) (Int.emod_nonneg _ (by omega)) (by omega)
    simp only [show ¬ ((3:Int)=0) by decide,show ¬ ((3:Int)=1) by decide,show ¬ ((3:Int)=2) by decide,if_false,if_true,kdOf]
    rw [e]
    have lt:=Int.emod_lt_of_pos (cell / 6) (show 0 < 1 + cell / 6 / 7 % 12 + 1 by omega)
    have:=a5 (by omega)
    simp only [isWorth,isShare,Bool.and_eq_true,decide_eq_true_eq]
    exact ⟨⟨a3,a6⟩,a1,this⟩
  · obtain ⟨x,y,e,a1,a2,a3,a4,a5,a6⟩:=shareW_bounds (t:=cell / 6 % 9) (b:=1 + cell / 6 / 9 % 12) (by omega) (by omega)
    simp only [show ¬ ((4:Int)=0) by decide,show ¬ ((4:Int)=1) by decide,show ¬ ((4:Int)=2) by decide,show ¬ ((4:Int)=3) by decide,if_false,if_true,kdOf]
    rw [e]
    simp only [isWorth,isShare,Bool.and_eq_true,decide_eq_true_eq]
    exact ⟨⟨a3,a6⟩,a1⟩
  · simp [kdOf,isWorth,isFrom]
    have:=e30 (cell / 6)
    split <;> omega
  · simp only [show ¬ ((6:Int)=0) by decide,show ¬ ((6:Int)=1) by decide,show ¬ ((6:Int)=2) by decide,show ¬ ((6:Int)=3) by decide,show ¬ ((6:Int)=4) by decide,show ¬ ((6:Int)=5) by decide,if_false,kdOf,isWorth,Bool.and_eq_true,decide_eq_true_eq]
    have p:(0:Int) < 2 ^ m.toNat:=Int.pow_pos (by decide)
    exact ⟨Int.emod_nonneg _ (Int.ne_of_gt p),Int.emod_lt_of_pos _ p⟩
end Ws
namespace Ws
structure KSR (S:Type) where
  zero:S
  one:S
  add:S→S→S
  mul:S→S→S
  star:S→Option S
  add_assoc:∀ a b c,add (add a b) c=add a (add b c)
  add_comm:∀ a b,add a b=add b a
  zero_add:∀ a,add zero a=a
  mul_assoc:∀ a b c,mul (mul a b) c=mul a (mul b c)
  mul_comm:∀ a b,mul a b=mul b a
  one_mul:∀ a,mul one a=a
  zero_mul:∀ a,mul zero a=zero
  mul_add:∀ a b c,mul a (add b c)=add (mul a b) (mul a c)
  anti:∀ a b c d,add a c=b→add b d=a→a=b
  star_eq:∀ a s,star a=some s→s=add one (mul a s)
  star_ind:∀ a s b x c,star a=some s→add (add b (mul a x)) c=x→∃ d,add (mul s b) d=x
def oMin:Option Nat→Option Nat→Option Nat
  | none,b=>b
  | a,none=>a
  | some i,some j=>some (min i j)
def oAdd:Option Nat→Option Nat→Option Nat
  | some i,some j=>some (i + j)
  | _,_=>none
def oMul:Option Nat→Option Nat→Option Nat
  | some i,some j=>some (i * j)
  | some 0,none=>some 0
  | none,some 0=>some 0
  | _,_=>none
def oAnd:Option Nat→Option Nat→Option Nat
  | none,b=>b
  | a,none=>a
  | some i,some j=>some (i &&& j)
def oOr:Option Nat→Option Nat→Option Nat
  | some i,some j=>some (i ||| j)
  | _,_=>none
theorem anti_idem {S:Type} {add:S→S→S} (as:∀ a b c,add (add a b) c=add a (add b c)) (cm:∀ a b,add a b=add b a) (id:∀ a,add a a=a) (a b c d:S) (h1:add a c=b) (h2:add b d=a):a=b:=by
  have e1:add b a=b:=by rw [← h1,as,cm c a,← as,id]
  have e2:add a b=a:=by rw [← h2,as,cm d b,← as,id]
  rw [← e2,cm,e1]
theorem star1_ind {S:Type} {add mul:S→S→S} {one:S} (as:∀ a b c,add (add a b) c=add a (add b c)) (om:∀ a,mul one a=a) (a b x c:S) (h:add (add b (mul a x)) c=x):∃ d,add (mul one b) d=x :=
  ⟨add (mul a x) c,by rw [om,← as]; exact h⟩
def ksFewest:KSR (Option Nat) where
  zero:=none
  one:=some 0
  add:=oMin
  mul:=oAdd
  star:=fun _=>some (some 0)
  add_assoc:=fun a b c=>by cases a <;> cases b <;> cases c <;> simp [oMin,Nat.min_assoc]
  add_comm:=fun a b=>by cases a <;> cases b <;> simp [oMin,Nat.min_comm]
  zero_add:=fun a=>by cases a <;> rfl
  mul_assoc:=fun a b c=>by cases a <;> cases b <;> cases c <;> simp [oAdd,Nat.add_assoc]
  mul_comm:=fun a b=>by cases a <;> cases b <;> simp [oAdd,Nat.add_comm]
  one_mul:=fun a=>by cases a <;> simp [oAdd]
  zero_mul:=fun a=>by cases a <;> rfl
  mul_add:=fun a b c=>by cases a <;> cases b <;> cases c <;> simp [oAdd,oMin,Nat.add_min_add_left]
  anti:=anti_idem (fun a b c=>by cases a <;> cases b <;> cases c <;> simp [oMin,Nat.min_assoc]) (fun a b=>by cases a <;> cases b <;> simp [oMin,Nat.min_comm]) (fun a=>by cases a <;> simp [oMin])
  star_eq:=fun a s h=>by cases h; cases a <;> simp [oAdd,oMin]
  star_ind:=fun a s b x c h=>by
    cases h
    exact star1_ind (fun a b c=>by cases a <;> cases b <;> cases c <;> simp [oMin,Nat.min_assoc]) (fun a=>by cases a <;> simp [oAdd]) a b x c
theorem and_or_distrib (i j k:Nat):i ||| (j &&& k)=(i ||| j) &&& (i ||| k):=by
  apply Nat.eq_of_testBit_eq; intro n; simp only [Nat.testBit_or,Nat.testBit_and]; cases i.testBit n <;> simp
def ksMusts:KSR (Option Nat) where
  zero:=none
  one:=some 0
  add:=oAnd
  mul:=oOr
  star:=fun _=>some (some 0)
  add_assoc:=fun a b c=>by cases a <;> cases b <;> cases c <;> simp [oAnd,Nat.and_assoc]
  add_comm:=fun a b=>by cases a <;> cases b <;> simp [oAnd,Nat.and_comm]
  zero_add:=fun a=>by cases a <;> rfl
  mul_assoc:=fun a b c=>by cases a <;> cases b <;> cases c <;> simp [oOr,Nat.or_assoc]
  mul_comm:=fun a b=>by cases a <;> cases b <;> simp [oOr,Nat.or_comm]
  one_mul:=fun a=>by cases a <;> simp [oOr]
  zero_mul:=fun a=>by cases a <;> rfl
  mul_add:=fun a b c=>by cases a <;> cases b <;> cases c <;> simp [oOr,oAnd,and_or_distrib]
  anti:=anti_idem (fun a b c=>by cases a <;> cases b <;> cases c <;> simp [oAnd,Nat.and_assoc]) (fun a b=>by cases a <;> cases b <;> simp [oAnd,Nat.and_comm]) (fun a=>by cases a <;> simp [oAnd])
  star_eq:=fun a s h=>by cases h; cases a <;> simp [oOr,oAnd]
  star_ind:=fun a s b x c h=>by
    cases h
    exact star1_ind (fun a b c=>by cases a <;> cases b <;> cases c <;> simp [oAnd,Nat.and_assoc]) (fun a=>by cases a <;> simp [oOr]) a b x c
def oStar:Option Nat→Option Nat
  | some 0=>some 1
  | _=>none
theorem oMul_some (i j:Nat):oMul (some i) (some j)=some (i * j):=by cases i <;> cases j <;> simp [oMul]
theorem oMul_comm (a b:Option Nat):oMul a b=oMul b a:=by
  cases a with
  | none=>cases b with
    | none=>rfl
    | some j=>cases j <;> rfl
  | some i=>cases b with
    | none=>cases i <;> rfl
    | some j=>rw [oMul_some,oMul_some,Nat.mul_comm]
theorem oMul_zero (a:Option Nat):oMul (some 0) a=some 0:=by cases a <;> simp [oMul]
theorem oMul_assoc (a b c:Option Nat):oMul (oMul a b) c=oMul a (oMul b c):=by
  rcases a with _ | _ | i <;> rcases b with _ | _ | j <;> rcases c with _ | _ | k <;> simp [oMul,Nat.mul_assoc,Nat.add_mul,Nat.mul_add,Nat.add_assoc]
theorem oMul_add (a b c:Option Nat):oMul a (oAdd b c)=oAdd (oMul a b) (oMul a c):=by
  rcases a with _ | _ | i <;> rcases b with _ | _ | j <;> rcases c with _ | _ | k <;> simp [oMul,oAdd,Nat.mul_add,Nat.add_mul] <;> first | rfl | omega | skip
theorem oAdd_assoc (a b c:Option Nat):oAdd (oAdd a b) c=oAdd a (oAdd b c):=by cases a <;> cases b <;> cases c <;> simp [oAdd,Nat.add_assoc]
theorem oAdd_comm (a b:Option Nat):oAdd a b=oAdd b a:=by cases a <;> cases b <;> simp [oAdd,Nat.add_comm]
def ksCounted:KSR (Option Nat) where
  zero:=some 0
  one:=some 1
  add:=oAdd
  mul:=oMul
  star:=fun a=>some (oStar a)
  add_assoc:=oAdd_assoc
  add_comm:=oAdd_comm
  zero_add:=fun a=>by cases a <;> simp [oAdd]
  mul_assoc:=oMul_assoc
  mul_comm:=oMul_comm
  one_mul:=fun a=>by
    cases a with
    | none=>rfl
    | some i=>rw [oMul_some,Nat.one_mul]
  zero_mul:=oMul_zero
  mul_add:=oMul_add
  anti:=fun a b c d h1 h2=>by
    cases a <;> cases b <;> cases c <;> cases d <;> simp [oAdd] at h1 h2 ⊢
    omega
  star_eq:=fun a s h=>by
    cases h
    rcases a with _ | _ | i <;> simp [oStar,oMul,oAdd]
  star_ind:=fun a s b x c h e=>by
    cases h
    rcases a with _ | _ | i
    · rcases b with _ | _ | j
      · have:x=none:=by rw [← e]; simp [oAdd]
        exact ⟨none,by rw [this]; rfl⟩
      · exact ⟨x,by cases x <;> simp [oStar,oMul,oAdd]⟩
      · refine ⟨none,?_⟩
        rcases x with _ | _ | n
        · rfl
        · rcases c with _ | k <;> simp [oMul,oAdd] at e
        · rcases c with _ | k <;> simp [oMul,oAdd] at e
    · refine ⟨c,?_⟩
      rw [← e,show oStar (some 0)=some 1 from rfl]
      rw [oMul_zero]
      cases b <;> simp [oMul,oAdd]
    · rcases b with _ | _ | j
      · have:x=none:=by rw [← e]; simp [oAdd]
        exact ⟨none,by rw [this]; rfl⟩
      · exact ⟨x,by cases x <;> simp [oStar,oMul,oAdd]⟩
      · refine ⟨none,?_⟩
        rcases x with _ | n
        · rfl
        · rcases c with _ | k
          · rw [oMul_some] at e; simp [oAdd] at e
          · rw [oMul_some] at e
            simp only [oAdd,Option.some.injEq] at e
            have:n≤(i + 1) * n:=Nat.le_mul_of_pos_left n (by omega)
            omega
abbrev Wid:={n:Nat // n≤1000000000}
def ksWidest:KSR Wid where
  zero:=⟨0,by omega⟩
  one:=⟨1000000000,by omega⟩
  add:=fun a b=>⟨max a.1 b.1,by have:=a.2; have:=b.2; omega⟩
  mul:=fun a b=>⟨min a.1 b.1,by have:=a.2; have:=b.2; omega⟩
  star:=fun _=>some ⟨1000000000,by omega⟩
  add_assoc:=fun a b c=>Subtype.ext (by simp [Nat.max_assoc])
  add_comm:=fun a b=>Subtype.ext (by simp [Nat.max_comm])
  zero_add:=fun a=>Subtype.ext (by simp)
  mul_assoc:=fun a b c=>Subtype.ext (by simp [Nat.min_assoc])
  mul_comm:=fun a b=>Subtype.ext (by simp [Nat.min_comm])
  one_mul:=fun a=>Subtype.ext (by have:=a.2; show min 1000000000 a.1=a.1; omega)
  zero_mul:=fun a=>Subtype.ext (by simp)
  mul_add:=fun a b c=>Subtype.ext (by show min a.1 (max b.1 c.1)=max (min a.1 b.1) (min a.1 c.1); omega)
  anti:=fun a b c d h1 h2=>Subtype.ext (by have:=congrArg Subtype.val h1; have:=congrArg Subtype.val h2; simp at *; omega)
  star_eq:=fun a s h=>by cases h; exact Subtype.ext (by have:=a.2; show 1000000000=max 1000000000 (min a.1 1000000000); omega)
  star_ind:=fun a s b x c h e=>by
    cases h
    exact star1_ind (add:=fun a b:Wid=>⟨max a.1 b.1,by have:=a.2; have:=b.2; omega⟩) (mul:=fun a b:Wid=>⟨min a.1 b.1,by have:=a.2; have:=b.2; omega⟩) (one:=⟨1000000000,by omega⟩) (fun a b c=>Subtype.ext (by simp [Nat.max_assoc])) (fun a=>Subtype.ext (by have:=a.2; show min 1000000000 a.1=a.1; omega)) a b x c e
end Ws
namespace Ws
abbrev Lik:={q:Rat // 0≤q∧q≤1}
abbrev Cha:={q:Rat // 0≤q}
theorem rmul_nonneg {a b:Rat} (ha:0≤a) (hb:0≤b):0≤a * b:=Rat.mul_nonneg ha hb
theorem rmul_le_one {a b:Rat} (ha:0≤a) (ha1:a≤1) (hb:0≤b) (hb1:b≤1):a * b≤1:=by
  have:=Rat.mul_le_mul_of_nonneg_left hb1 ha
  grind
def rmax (a b:Rat):Rat:=if a < b then b else a
theorem rmul_max {a b c:Rat} (ha:0≤a):a * rmax b c=rmax (a * b) (a * c):=by
  unfold rmax
  by_cases h:b < c
  · rw [if_pos h]
    by_cases z:a * b < a * c
    · rw [if_pos z]
    · rw [if_neg z]
      have:=Rat.mul_le_mul_of_nonneg_left (Rat.le_of_lt h) ha
      grind
  · rw [if_neg h]
    by_cases z:a * b < a * c
    · have:=Rat.mul_le_mul_of_nonneg_left (show c≤b by grind) ha
      grind
    · rw [if_neg z]
theorem rmax_assoc (a b c:Rat):rmax (rmax a b) c=rmax a (rmax b c):=by unfold rmax; grind
theorem rmax_comm (a b:Rat):rmax a b=rmax b a:=by unfold rmax; grind
def ksLikeliest:KSR Lik where
  zero:=⟨0,by grind⟩
  one:=⟨1,by grind⟩
  add:=fun a b=>⟨rmax a.1 b.1,by have:=a.2; have:=b.2; unfold rmax; grind⟩
  mul:=fun a b=>⟨a.1 * b.1,rmul_nonneg a.2.1 b.2.1,rmul_le_one a.2.1 a.2.2 b.2.1 b.2.2⟩
  star:=fun _=>some ⟨1,by grind⟩
  add_assoc:=fun a b c=>Subtype.ext (rmax_assoc _ _ _)
  add_comm:=fun a b=>Subtype.ext (rmax_comm _ _)
  zero_add:=fun a=>Subtype.ext (by have:=a.2; show rmax 0 a.1=a.1; unfold rmax; grind)
  mul_assoc:=fun a b c=>Subtype.ext (by show a.1 * b.1 * c.1=a.1 * (b.1 * c.1); grind)
  mul_comm:=fun a b=>Subtype.ext (by show a.1 * b.1=b.1 * a.1; grind)
  one_mul:=fun a=>Subtype.ext (by show 1 * a.1=a.1; grind)
  zero_mul:=fun a=>Subtype.ext (by show 0 * a.1=0; grind)
  mul_add:=fun a b c=>Subtype.ext (rmul_max a.2.1)
  anti:=fun a b c d h1 h2=>Subtype.ext (by have h1:rmax a.1 c.1=b.1:=congrArg Subtype.val h1; have h2:rmax b.1 d.1=a.1:=congrArg Subtype.val h2; unfold rmax at *; grind)
  star_eq:=fun a s h=>by cases h; exact Subtype.ext (by have:=a.2; show 1=rmax 1 (a.1 * 1); unfold rmax; grind)
  star_ind:=fun a s b x c h e=>by
    cases h
    refine ⟨⟨rmax (a.1 * x.1) c.1,by have:=a.2; have:=c.2; have:=rmul_nonneg a.2.1 x.2.1; have:=rmul_le_one a.2.1 a.2.2 x.2.1 x.2.2; unfold rmax; grind⟩,Subtype.ext ?_⟩
    have e:rmax (rmax b.1 (a.1 * x.1)) c.1=x.1:=congrArg Subtype.val e
    show rmax (1 * b.1) (rmax (a.1 * x.1) c.1)=x.1
    rw [← rmax_assoc,show 1 * b.1=b.1 by grind]
    exact e
theorem rinv_nonneg {a:Rat} (h:a < 1):0≤(1 - a)⁻¹:=Rat.le_of_lt (Rat.inv_pos.mpr (by grind))
def ksChances:KSR Cha where
  zero:=⟨0,by grind⟩
  one:=⟨1,by grind⟩
  add:=fun a b=>⟨a.1 + b.1,by have:=a.2; have:=b.2; grind⟩
  mul:=fun a b=>⟨a.1 * b.1,rmul_nonneg a.2 b.2⟩
  star:=fun a=>if h:a.1 < 1 then some ⟨(1 - a.1)⁻¹,rinv_nonneg h⟩ else none
  add_assoc:=fun a b c=>Subtype.ext (by show a.1 + b.1 + c.1=a.1 + (b.1 + c.1); grind)
  add_comm:=fun a b=>Subtype.ext (by show a.1 + b.1=b.1 + a.1; grind)
  zero_add:=fun a=>Subtype.ext (by show 0 + a.1=a.1; grind)
  mul_assoc:=fun a b c=>Subtype.ext (by show a.1 * b.1 * c.1=a.1 * (b.1 * c.1); grind)
  mul_comm:=fun a b=>Subtype.ext (by show a.1 * b.1=b.1 * a.1; grind)
  one_mul:=fun a=>Subtype.ext (by show 1 * a.1=a.1; grind)
  zero_mul:=fun a=>Subtype.ext (by show 0 * a.1=0; grind)
  mul_add:=fun a b c=>Subtype.ext (by show a.1 * (b.1 + c.1)=a.1 * b.1 + a.1 * c.1; grind)
  anti:=fun a b c d h1 h2=>Subtype.ext (by have h1:a.1 + c.1=b.1:=congrArg Subtype.val h1; have h2:b.1 + d.1=a.1:=congrArg Subtype.val h2; have:=c.2; have:=d.2; grind)
  star_eq:=fun a s h=>by
    split at h
    · cases h
      exact Subtype.ext (by show (1 - a.1)⁻¹=1 + a.1 * (1 - a.1)⁻¹; grind)
    · cases h
  star_ind:=fun a s b x c h e=>by
    split at h
    · rename_i lt
      cases h
      refine ⟨⟨(1 - a.1)⁻¹ * c.1,rmul_nonneg (rinv_nonneg lt) c.2⟩,Subtype.ext ?_⟩
      have e:b.1 + a.1 * x.1 + c.1=x.1:=congrArg Subtype.val e
      show (1 - a.1)⁻¹ * b.1 + (1 - a.1)⁻¹ * c.1=x.1
      grind
    · cases h
theorem chances_lt (x:Cha) (h:x.1 < 1):ksChances.star x=some ⟨(1 - x.1)⁻¹,rinv_nonneg h⟩:=dif_pos h
theorem chances_ge (x:Cha) (h:¬ x.1 < 1):ksChances.star x=none:=dif_neg h
end Ws
namespace Ws
def raisedN (m b i:Nat):Nat:=((b <<< i) &&& (2 ^ m - 1)) ||| ((b <<< i) >>> m)
def behN (m a b:Nat):Nat:=(List.range m).foldl (fun s i=>if a.testBit i then s ||| raisedN m b i else s) 0
def behTo (m a b n:Nat):Nat:=(List.range n).foldl (fun s i=>if a.testBit i then s ||| raisedN m b i else s) 0
theorem behTo_succ (m a b n:Nat):behTo m a b (n + 1)=if a.testBit n then behTo m a b n ||| raisedN m b n else behTo m a b n:=by
  unfold behTo; rw [List.range_succ,List.foldl_append]; rfl
theorem raised_bit {m b i k:Nat} (hb:b < 2 ^ m) (hi:i < m):(raisedN m b i).testBit k=true ↔ k < m∧∃ j,j < m∧b.testBit j=true∧(i + j) % m=k:=by
  have hz:∀ j,m≤j→b.testBit j=false:=fun j h=>Nat.testBit_lt_two_pow (Nat.lt_of_lt_of_le hb (Nat.pow_le_pow_right (by omega) h))
  unfold raisedN
  rw [Nat.testBit_or,Nat.testBit_and,Nat.testBit_shiftRight,Nat.testBit_two_pow_sub_one,Nat.testBit_shiftLeft,Nat.testBit_shiftLeft]
  simp only [Bool.or_eq_true,Bool.and_eq_true,decide_eq_true_eq]
  constructor
  · rintro (⟨⟨h1,h2⟩,h3⟩ | ⟨h1,h2⟩)
    · refine ⟨h3,k - i,by omega,h2,?_⟩
      rw [show i + (k - i)=k by omega,Nat.mod_eq_of_lt h3]
    · have h4:¬ m≤m + k - i:=fun z=>by rw [hz _ z] at h2; cases h2
      refine ⟨by omega,m + k - i,by omega,h2,?_⟩
      rw [show i + (m + k - i)=k + m by omega,Nat.add_mod_right,Nat.mod_eq_of_lt (by omega)]
  · rintro ⟨h1,j,h2,h3,h4⟩
    by_cases c:i + j < m
    · rw [Nat.mod_eq_of_lt c] at h4
      refine .inl ⟨⟨by omega,?_⟩,h1⟩
      rw [show k - i=j by omega]; exact h3
    · rw [show i + j=(i + j - m) + m by omega,Nat.add_mod_right,Nat.mod_eq_of_lt (by omega)] at h4
      refine .inr ⟨by omega,?_⟩
      rw [show m + k - i=j by omega]; exact h3
theorem behTo_bit {m a b k:Nat} (hb:b < 2 ^ m):∀ n,n≤m→((behTo m a b n).testBit k=true ↔ k < m∧∃ i j,i < n∧j < m∧a.testBit i=true∧b.testBit j=true∧(i + j) % m=k)
  | 0,_=>by simp [behTo]
  | n + 1,h=>by
    have ih:=behTo_bit (a:=a) (k:=k) hb n (by omega)
    rw [behTo_succ]
    by_cases c:a.testBit n=true
    · rw [if_pos c,Nat.testBit_or,Bool.or_eq_true,ih,raised_bit hb (by omega)]
      constructor
      · rintro (⟨h1,i,j,h2,h3,h4⟩ | ⟨h1,j,h2,h3,h4⟩)
        · exact ⟨h1,i,j,by omega,h3,h4⟩
        · exact ⟨h1,n,j,by omega,h2,c,h3,h4⟩
      · rintro ⟨h1,i,j,h2,h3,h4,h5,h6⟩
        by_cases e:i=n
        · subst e; exact .inr ⟨h1,j,h3,h5,h6⟩
        · exact .inl ⟨h1,i,j,by omega,h3,h4,h5,h6⟩
    · rw [if_neg c,ih]
      constructor
      · rintro ⟨h1,i,j,h2,h3,h4⟩; exact ⟨h1,i,j,by omega,h3,h4⟩
      · rintro ⟨h1,i,j,h2,h3,h4,h5,h6⟩
        refine ⟨h1,i,j,?_,h3,h4,h5,h6⟩
        have:i≠n:=fun e=>by subst e; exact c h4
        omega
theorem behN_bit {m a b k:Nat} (hb:b < 2 ^ m):(behN m a b).testBit k=true ↔ k < m∧∃ i j,i < m∧j < m∧a.testBit i=true∧b.testBit j=true∧(i + j) % m=k:=behTo_bit hb m (Nat.le_refl m)
theorem lt_of_bits {m x:Nat} (h:∀ k,x.testBit k=true→k < m):x < 2 ^ m:=by
  apply Nat.lt_pow_two_of_testBit
  intro i hi
  cases e:x.testBit i with
  | false=>rfl
  | true=>have:=h i e; omega
theorem behN_lt {m a b:Nat} (hb:b < 2 ^ m):behN m a b < 2 ^ m:=lt_of_bits fun k h=>((behN_bit hb).mp h).1
theorem bit_lt {m x k:Nat} (h:x < 2 ^ m) (b:x.testBit k=true):k < m:=by
  by_cases c:k < m
  · exact c
  · rw [Nat.testBit_lt_two_pow (Nat.lt_of_lt_of_le h (Nat.pow_le_pow_right (by omega) (by omega)))] at b; cases b
theorem eq_of_bits {x y:Nat} (h:∀ k,x.testBit k=true ↔ y.testBit k=true):x=y:=Nat.eq_of_testBit_eq fun k=>Bool.eq_iff_iff.mpr (h k)
theorem behN_comm {m a b:Nat} (ha:a < 2 ^ m) (hb:b < 2 ^ m):behN m a b=behN m b a:=eq_of_bits fun k=>by
  rw [behN_bit hb,behN_bit ha]
  constructor <;> rintro ⟨h,i,j,h1,h2,h3,h4,h5⟩ <;> exact ⟨h,j,i,h2,h1,h4,h3,by rw [Nat.add_comm]; exact h5⟩
theorem behN_assoc {m a b c:Nat} (hb:b < 2 ^ m) (hc:c < 2 ^ m):behN m (behN m a b) c=behN m a (behN m b c):=eq_of_bits fun k=>by
  rw [behN_bit hc,behN_bit (behN_lt hc)]
  constructor
  · rintro ⟨h,i,j,h1,h2,h3,h4,h5⟩
    obtain ⟨_,p,q,g1,g2,g3,g4,g5⟩:=(behN_bit hb).mp h3
    refine ⟨h,p,(q + j) % m,g1,Nat.mod_lt _ (by omega),g3,(behN_bit hc).mpr ⟨Nat.mod_lt _ (by omega),q,j,g2,h2,g4,h4,rfl⟩,?_⟩
    rw [← h5,← g5,Nat.add_mod_mod,Nat.mod_add_mod,Nat.add_assoc]
  · rintro ⟨h,i,j,h1,h2,h3,h4,h5⟩
    obtain ⟨_,p,q,g1,g2,g3,g4,g5⟩:=(behN_bit hc).mp h4
    refine ⟨h,(i + p) % m,q,Nat.mod_lt _ (by omega),g2,(behN_bit hb).mpr ⟨Nat.mod_lt _ (by omega),i,p,h1,g1,h3,g3,rfl⟩,g4,?_⟩
    rw [← h5,← g5,Nat.add_mod_mod,Nat.mod_add_mod,Nat.add_assoc]
theorem behN_or {m a b c:Nat} (hb:b < 2 ^ m) (hc:c < 2 ^ m):behN m a (b ||| c)=behN m a b ||| behN m a c:=eq_of_bits fun k=>by
  rw [behN_bit (Nat.or_lt_two_pow hb hc),Nat.testBit_or,Bool.or_eq_true,behN_bit hb,behN_bit hc]
  simp only [Nat.testBit_or,Bool.or_eq_true]
  constructor
  · rintro ⟨h,i,j,h1,h2,h3,h4 | h4,h5⟩
    · exact .inl ⟨h,i,j,h1,h2,h3,h4,h5⟩
    · exact .inr ⟨h,i,j,h1,h2,h3,h4,h5⟩
  · rintro (⟨h,i,j,h1,h2,h3,h4,h5⟩ | ⟨h,i,j,h1,h2,h3,h4,h5⟩)
    · exact ⟨h,i,j,h1,h2,h3,.inl h4,h5⟩
    · exact ⟨h,i,j,h1,h2,h3,.inr h4,h5⟩
theorem one_bit {k:Nat}:(1:Nat).testBit k=true ↔ k=0:=by
  rw [show (1:Nat)=2 ^ 0 from rfl,Nat.testBit_two_pow]
  simp; omega
theorem one_lt {m:Nat} (hm:1≤m):1 < 2 ^ m:=Nat.one_lt_two_pow (by omega)
theorem behN_one {m a:Nat} (hm:1≤m) (ha:a < 2 ^ m):behN m 1 a=a:=eq_of_bits fun k=>by
  rw [behN_bit ha]
  constructor
  · rintro ⟨h,i,j,h1,h2,h3,h4,h5⟩
    rw [one_bit] at h3; subst h3
    rw [Nat.zero_add,Nat.mod_eq_of_lt h2] at h5; subst h5; exact h4
  · intro h
    have:=bit_lt ha h
    exact ⟨this,0,k,by omega,this,one_bit.mpr rfl,h,by rw [Nat.zero_add,Nat.mod_eq_of_lt this]⟩
theorem behN_zero {m a:Nat} (ha:a < 2 ^ m):behN m 0 a=0:=eq_of_bits fun k=>by
  rw [behN_bit ha]; simp
def rndTo (m a:Nat):Nat→Nat
  | 0=>1
  | k + 1=>rndTo m a k ||| behN m (rndTo m a k) a
theorem rndTo_lt {m a:Nat} (hm:1≤m) (ha:a < 2 ^ m):∀ k,rndTo m a k < 2 ^ m
  | 0=>one_lt hm
  | k + 1=>Nat.or_lt_two_pow (rndTo_lt hm ha k) (behN_lt ha)
theorem rndTo_stays {m a k : Nat} (h : rndTo m a (k + 1) = rndTo m a k) : ∀ j, k ≤ j → rndTo m a j = rndTo m a k := fun j hj => by
  induction j with
  | zero => obtain rfl : k = 0 := by omega
            rfl
  | succ j ih =>
    by_cases c : k ≤ j
    · have e := ih c
      show rndTo m a j ||| behN m (rndTo m a j) a = _
      rw [e]; exact h
    · obtain rfl : k = j + 1 := by omega
      rfl
def cnt (x:Nat):Nat→Nat
  | 0=>0
  | n + 1=>cnt x n + (if x.testBit n then 1 else 0)
theorem cnt_le (x:Nat):∀ n,cnt x n≤n
  | 0=>Nat.le_refl _
  | n + 1=>by have:=cnt_le x n; unfold cnt; split <;> omega
theorem cnt_mono {x y:Nat} (h:∀ k,x.testBit k=true→y.testBit k=true):∀ n,cnt x n≤cnt y n
  | 0=>Nat.le_refl _
  | n + 1=>by
    have ih:=cnt_mono h n
    unfold cnt
    split
    · rename_i c; rw [if_pos (h n c)]; omega
    · split <;> omega
theorem cnt_lt {x y:Nat} (h:∀ k,x.testBit k=true→y.testBit k=true) (k:Nat) (h1:x.testBit k=false) (h2:y.testBit k=true):∀ n,k < n→cnt x n < cnt y n
  | 0,z=>by omega
  | n + 1,z=>by
    unfold cnt
    by_cases e:k=n
    · subst e
      have:=cnt_mono h k
      rw [h1,h2]; simp; omega
    · have:=cnt_lt h k h1 h2 n (by omega)
      split
      · rename_i c; rw [if_pos (h n c)]; omega
      · split <;> omega
theorem rndTo_grows {m a:Nat} (hm:1≤m) (ha:a < 2 ^ m):∀ k,(∀ j,j < k→rndTo m a (j + 1)≠rndTo m a j)→k + 1≤cnt (rndTo m a k) m
  | 0,_=>by
    obtain ⟨n,rfl⟩:∃ n,m=n + 1:=⟨m - 1,by omega⟩
    have:∀ n,1≤cnt 1 (n + 1):=fun n=>by
      induction n with
      | zero=>simp [cnt]
      | succ n ih=>rw [cnt]; omega
    exact this n
  | k + 1,h=>by
    have ih:=rndTo_grows hm ha k fun j hj=>h j (by omega)
    have ne:=h k (by omega)
    have sub:∀ i,(rndTo m a k).testBit i=true→(rndTo m a (k + 1)).testBit i=true:=fun i z=>by
      show (rndTo m a k ||| behN m (rndTo m a k) a).testBit i=true
      rw [Nat.testBit_or,z]; rfl
    obtain ⟨i,hi⟩:∃ i,(rndTo m a k).testBit i=false∧(rndTo m a (k + 1)).testBit i=true:=by
      refine Classical.byContradiction fun n=>ne (eq_of_bits fun i=>⟨fun z=>?_,sub i⟩)
      refine Classical.byContradiction fun y=>n ⟨i,by cases e:(rndTo m a k).testBit i <;> simp_all,z⟩
    have:=cnt_lt sub i hi.1 hi.2 m (bit_lt (rndTo_lt hm ha (k + 1)) hi.2)
    omega
theorem rndTo_fix {m a:Nat} (hm:1≤m) (ha:a < 2 ^ m):∀ j,m≤j→rndTo m a j=rndTo m a m:=by
  have:∃ k,k < m∧rndTo m a (k + 1)=rndTo m a k:=by
    refine Classical.byContradiction fun n=>?_
    have:=rndTo_grows hm ha m fun j hj e=>n ⟨j,hj,e⟩
    have:=cnt_le (rndTo m a m) m
    omega
  obtain ⟨k,hk,e⟩:=this
  intro j hj
  rw [rndTo_stays e j (by omega),rndTo_stays e m (by omega)]
abbrev Res (m:Nat):={n:Nat // n < 2 ^ m}
theorem or_self (a:Nat):a ||| a=a:=Nat.or_self a
def ksRests (m:Nat) (hm:1≤m):KSR (Res m) where
  zero:=⟨0,Nat.two_pow_pos m⟩
  one:=⟨1,one_lt hm⟩
  add:=fun a b=>⟨a.1 ||| b.1,Nat.or_lt_two_pow a.2 b.2⟩
  mul:=fun a b=>⟨behN m a.1 b.1,behN_lt b.2⟩
  star:=fun a=>some ⟨rndTo m a.1 m,rndTo_lt hm a.2 m⟩
  add_assoc:=fun a b c=>Subtype.ext (Nat.or_assoc _ _ _)
  add_comm:=fun a b=>Subtype.ext (Nat.or_comm _ _)
  zero_add:=fun a=>Subtype.ext (Nat.zero_or _)
  mul_assoc:=fun a b c=>Subtype.ext (behN_assoc b.2 c.2)
  mul_comm:=fun a b=>Subtype.ext (behN_comm a.2 b.2)
  one_mul:=fun a=>Subtype.ext (behN_one hm a.2)
  zero_mul:=fun a=>Subtype.ext (behN_zero a.2)
  mul_add:=fun a b c=>Subtype.ext (behN_or b.2 c.2)
  anti:=fun a b c d h1 h2=>Subtype.ext (anti_idem (add:=fun a b:Nat=>a ||| b) Nat.or_assoc Nat.or_comm Nat.or_self a.1 b.1 c.1 d.1 (congrArg Subtype.val h1) (congrArg Subtype.val h2))
  star_eq:=fun a s h=>by
    cases h
    refine Subtype.ext ?_
    show rndTo m a.1 m=1 ||| behN m a.1 (rndTo m a.1 m)
    have key:∀ k,rndTo m a.1 (k + 1)=1 ||| behN m a.1 (rndTo m a.1 k):=fun k=>by
      induction k with
      | zero=>show 1 ||| behN m 1 a.1=1 ||| behN m a.1 1; rw [behN_comm a.2 (one_lt hm)]
      | succ k ih =>
        have l:=rndTo_lt hm a.2 k
        have e:rndTo m a.1 (k + 2)=rndTo m a.1 (k + 1) ||| behN m (rndTo m a.1 (k + 1)) a.1:=rfl
        have e1:rndTo m a.1 (k + 1)=rndTo m a.1 k ||| behN m (rndTo m a.1 k) a.1:=rfl
        have l1:=rndTo_lt hm a.2 (k + 1)
        rw [e,behN_comm l1 a.2]
        refine eq_of_bits fun i=>?_
        have s1:(rndTo m a.1 (k + 1)).testBit i=true→(1 ||| behN m a.1 (rndTo m a.1 (k + 1))).testBit i=true:=fun z=>by
          rw [ih,Nat.testBit_or,Bool.or_eq_true] at z
          rw [Nat.testBit_or,Bool.or_eq_true]
          rcases z with z | z
          · exact .inl z
          · refine .inr ?_
            rw [e1,behN_or l (behN_lt a.2),Nat.testBit_or,z]; rfl
        have s2:(1:Nat).testBit i=true→(rndTo m a.1 (k + 1)).testBit i=true:=fun z=>by rw [ih,Nat.testBit_or,z]; rfl
        simp only [Nat.testBit_or,Bool.or_eq_true] at s1 ⊢
        constructor
        · rintro (z | z)
          · exact s1 z
          · exact .inr z
        · rintro (z | z)
          · exact .inl (s2 z)
          · exact .inr z
    rw [← key m]
    exact (rndTo_fix hm a.2 (m + 1) (by omega)).symm
  star_ind:=fun a s b x c h e=>by
    cases h
    refine ⟨x,Subtype.ext ?_⟩
    have e:b.1 ||| behN m a.1 x.1 ||| c.1=x.1:=congrArg Subtype.val e
    show behN m (rndTo m a.1 m) b.1 ||| x.1=x.1
    have hb:∀ i,b.1.testBit i=true→x.1.testBit i=true:=fun i z=>by rw [← e,Nat.testBit_or,Nat.testBit_or,z]; rfl
    have hax:∀ i,(behN m a.1 x.1).testBit i=true→x.1.testBit i=true:=fun i z=>by rw [← e,Nat.testBit_or,Nat.testBit_or,z]; simp
    have mono:∀ {p q r:Nat},q < 2 ^ m→r < 2 ^ m→(∀ i,q.testBit i=true→r.testBit i=true)→∀ i,(behN m p q).testBit i=true→(behN m p r).testBit i=true:=fun hq hr z i y=>by
      rw [behN_bit hq] at y
      obtain ⟨h,i,j,h1,h2,h3,h4,h5⟩:=y
      exact (behN_bit hr).mpr ⟨h,i,j,h1,h2,h3,z j h4,h5⟩
    have key:∀ k i,(behN m (rndTo m a.1 k) b.1).testBit i=true→x.1.testBit i=true:=fun k=>by
      induction k with
      | zero=>intro i z; rw [show rndTo m a.1 0=1 from rfl,behN_one hm b.2] at z; exact hb i z
      | succ k ih =>
        intro i z
        have l:=rndTo_lt hm a.2 k
        rw [show rndTo m a.1 (k + 1)=rndTo m a.1 k ||| behN m (rndTo m a.1 k) a.1 from rfl,behN_comm (Nat.or_lt_two_pow l (behN_lt a.2)) b.2,behN_or l (behN_lt a.2),Nat.testBit_or,Bool.or_eq_true] at z
        rcases z with z | z
        · rw [behN_comm b.2 l] at z; exact ih i z
        · rw [behN_comm l a.2,behN_comm b.2 (behN_lt l),behN_assoc l b.2] at z
          exact hax i (mono (behN_lt b.2) x.2 (fun i y=>ih i y) i z)
    refine eq_of_bits fun i=>?_
    rw [Nat.testBit_or,Bool.or_eq_true]
    exact ⟨fun z=>z.elim (key m i) id,.inr⟩
end Ws
namespace Ws
def ofR (q:Rat):Wd:=.pair q.num (q.den:Int)
theorem den_pos (q:Rat):(0:Int) < q.den:=by have:=q.den_nz; omega
theorem shareW_ofR {t b:Int} (h:0 < b):shareW t b=ofR (Rat.divInt t b):=by
  unfold shareW ofR
  rw [Rat.num_divInt,Rat.den_divInt,if_neg (by omega),Int.sign_eq_one_of_pos h,Int.one_mul,Int.gcd_comm b t]
  congr 1
  rw [Int.natCast_ediv,Int.natAbs_of_nonneg (by omega)]
theorem ofR_gcd (q:Rat):Int.gcd q.num (q.den:Int)=1:=q.reduced
theorem ofR_share (q:Rat):isShare (ofR q)=true:=by
  show (decide ((0:Int) < q.den) && decide (Int.gcd q.num (q.den:Int)=1))=true
  rw [ofR_gcd,decide_eq_true (den_pos q)]; rfl
theorem share_is {a b:Int} (h:isShare (.pair a b)=true):∃ q:Rat,q.num=a∧(q.den:Int)=b:=by
  simp only [isShare,Bool.and_eq_true,decide_eq_true_eq] at h
  refine ⟨⟨a,b.toNat,by omega,?_⟩,rfl,by show ((b.toNat:Nat):Int)=b; omega⟩
  have:b.toNat=b.natAbs:=by omega
  rw [this]; exact h.2
theorem add_shareW (p q:Rat):shareW (p.num * q.den + q.num * p.den) (p.den * q.den)=ofR (p + q):=by
  rw [shareW_ofR (Int.mul_pos (den_pos p) (den_pos q)),← Rat.divInt_add_divInt _ _ (Int.ne_of_gt (den_pos p)) (Int.ne_of_gt (den_pos q)),Rat.num_divInt_den,Rat.num_divInt_den]
theorem mul_shareW (p q:Rat):shareW (p.num * q.num) (p.den * q.den)=ofR (p * q):=by
  rw [shareW_ofR (Int.mul_pos (den_pos p) (den_pos q)),← Rat.divInt_mul_divInt,Rat.num_divInt_den,Rat.num_divInt_den]
theorem lack_divInt (p:Rat):Rat.divInt (p.den - p.num) p.den=1 - p:=by
  have z:(p.den:Rat)≠0:=by intro z; have:=p.den_nz; exact this (by exact_mod_cast z)
  have e:p=(p.num:Rat) / ((p.den:Int):Rat):=by
    conv=>lhs; rw [← Rat.num_divInt_den p]
    rw [Rat.divInt_eq_div]
  have e1:p * (p.den:Rat)=(p.num:Rat):=by
    rw [Rat.intCast_natCast] at e
    rw [Rat.div_def] at e
    have:=congrArg (fun x=>x * (p.den:Rat)) e
    refine this.trans ?_
    show (p.num:Rat) * (p.den:Rat)⁻¹ * (p.den:Rat)=p.num
    rw [Rat.mul_assoc,Rat.inv_mul_cancel _ z,Rat.mul_one]
  rw [Rat.divInt_eq_div,Rat.intCast_sub,Rat.intCast_natCast,← e1,Rat.div_def]
  generalize (p.den:Rat)=d at z
  grind
theorem lt_one {q:Rat}:q.num < q.den ↔ q < 1:=by
  rw [Rat.lt_iff]
  simp
theorem num_pos {q:Rat}:0 < q.num ↔ 0 < q:=by
  rw [Rat.lt_iff]
  simp
theorem lt_cross (p q:Rat):p.num * q.den < q.num * p.den ↔ p < q:=(Rat.lt_iff p q).symm
theorem le_one {q:Rat}:q.num≤q.den ↔ q≤1:=by
  rw [Rat.le_iff]
  simp
def Car:Kd→Type
  | .fewest=>Option Nat
  | .widest=>Wid
  | .counted=>Option Nat
  | .likeliest=>Lik
  | .chances=>Cha
  | .musts=>Option Nat
  | .rests m=>Res m
def enc:(kd:Kd)→Car kd→Wd
  | .fewest,none=>.non
  | .fewest,some n=>.int (n:Int)
  | .widest,n=>.int (n.1:Int)
  | .counted,none=>.int (-1)
  | .counted,some n=>.int (n:Int)
  | .likeliest,q=>ofR q.1
  | .chances,q=>ofR q.1
  | .musts,none=>.non
  | .musts,some n=>.int (n:Int)
  | .rests _,n=>.int (n.1:Int)
def ks:(kd:Kd)→KdOk kd→KSR (Car kd)
  | .fewest,_=>ksFewest
  | .widest,_=>ksWidest
  | .counted,_=>ksCounted
  | .likeliest,_=>ksLikeliest
  | .chances,_=>ksChances
  | .musts,_=>ksMusts
  | .rests m,h=>ksRests m h.1
theorem pow_cast (m:Nat):((2 ^ m:Nat):Int)=2 ^ m:=by
  induction m with
  | zero=>rfl
  | succ m ih=>rw [Nat.pow_succ,Int.pow_succ,← ih]; simp
theorem isWorth_enc:∀ {kd:Kd} (x:Car kd),isWorth kd (enc kd x)=true
  | .fewest,none=>by simp [enc,isWorth]
  | .fewest,some _=>by simp [enc,isWorth,isFrom]
  | .widest,x=>by have:=x.2; simp [enc,isWorth]; omega
  | .counted,none=>by simp [enc,isWorth,isFrom]
  | .counted,some _=>by simp only [enc,isWorth,isFrom,decide_eq_true_eq]; omega
  | .likeliest,x=>by
    have h:=x.2
    show (isShare (ofR x.1) && (decide (0≤x.1.num) && decide (x.1.num≤x.1.den)))=true
    rw [ofR_share,decide_eq_true (Rat.num_nonneg.mpr h.1),decide_eq_true (le_one.mpr h.2)]; rfl
  | .chances,x=>by
    have h:=x.2
    show (isShare (ofR x.1) && decide (0≤x.1.num))=true
    rw [ofR_share,decide_eq_true (Rat.num_nonneg.mpr h)]; rfl
  | .musts,none=>by simp [enc,isWorth]
  | .musts,some _=>by simp [enc,isWorth,isFrom]
  | .rests m,x=>by
    have h:=x.2
    simp only [enc,isWorth,Bool.and_eq_true,decide_eq_true_eq]
    have:=pow_cast m
    exact ⟨by omega,by rw [← this]; exact Int.ofNat_lt.mpr h⟩
theorem enc_surj:∀ {kd:Kd} {w:Wd},isWorth kd w=true→∃ x:Car kd,w=enc kd x
  | .fewest,.non,_=>⟨none,rfl⟩
  | .fewest,.int i,h=>by
    simp [isWorth,isFrom] at h
    exact ⟨some i.toNat,by show Wd.int i=Wd.int ((i.toNat:Nat):Int); congr 1; omega⟩
  | .fewest,.pair _ _,h=>by simp [isWorth,isFrom] at h
  | .widest,.int i,h=>by
    simp [isWorth] at h
    exact ⟨⟨i.toNat,by omega⟩,by show Wd.int i=Wd.int ((i.toNat:Nat):Int); congr 1; omega⟩
  | .counted,.int i,h=>by
    simp [isWorth,isFrom] at h
    by_cases e:i=-1
    · exact ⟨none,by rw [e]; rfl⟩
    · exact ⟨some i.toNat,by show Wd.int i=Wd.int ((i.toNat:Nat):Int); congr 1; omega⟩
  | .likeliest,.pair a b,h=>by
    simp only [isWorth,Bool.and_eq_true,decide_eq_true_eq] at h
    obtain ⟨q,rfl,rfl⟩:=share_is h.1
    exact ⟨⟨q,Rat.num_nonneg.mp h.2.1,le_one.mp h.2.2⟩,rfl⟩
  | .chances,.pair a b,h=>by
    simp only [isWorth,Bool.and_eq_true,decide_eq_true_eq] at h
    obtain ⟨q,rfl,rfl⟩:=share_is h.1
    exact ⟨⟨q,Rat.num_nonneg.mp h.2⟩,rfl⟩
  | .musts,.non,_=>⟨none,rfl⟩
  | .musts,.int i,h=>by
    simp [isWorth,isFrom] at h
    exact ⟨some i.toNat,by show Wd.int i=Wd.int ((i.toNat:Nat):Int); congr 1; omega⟩
  | .musts,.pair _ _,h=>by simp [isWorth,isFrom] at h
  | .rests m,.int i,h=>by
    simp only [isWorth,Bool.and_eq_true,decide_eq_true_eq] at h
    have:=pow_cast m
    exact ⟨⟨i.toNat,by rw [← this] at h; omega⟩,by show Wd.int i=Wd.int ((i.toNat:Nat):Int); congr 1; omega⟩
  | .widest,.non,h=>by simp [isWorth] at h
  | .widest,.pair _ _,h=>by simp [isWorth] at h
  | .counted,.non,h=>by simp [isWorth,isFrom] at h
  | .counted,.pair _ _,h=>by simp [isWorth,isFrom] at h
  | .likeliest,.non,h=>by simp [isWorth] at h
  | .likeliest,.int _,h=>by simp [isWorth] at h
  | .chances,.non,h=>by simp [isWorth] at h
  | .chances,.int _,h=>by simp [isWorth] at h
  | .rests _,.non,h=>by simp [isWorth] at h
  | .rests _,.pair _ _,h=>by simp [isWorth] at h
section
variable {S : Type} (R : KSR S)
theorem KSR.add_zero (a:S):R.add a R.zero=a:=by rw [R.add_comm]; exact R.zero_add a
theorem KSR.mul_one (a:S):R.mul a R.one=a:=by rw [R.mul_comm]; exact R.one_mul a
theorem KSR.mul_zero (a:S):R.mul a R.zero=R.zero:=by rw [R.mul_comm]; exact R.zero_mul a
theorem KSR.add_mul (a b c:S):R.mul (R.add a b) c=R.add (R.mul a c) (R.mul b c):=by rw [R.mul_comm,R.mul_add,R.mul_comm c a,R.mul_comm c b]
def KSR.le (a b:S):Prop:=∃ c,R.add a c=b
theorem KSR.zero_le (a:S):R.le R.zero a:=⟨a,R.zero_add a⟩
end
end Ws
namespace Ws
open PySem
open Builtin.Int (intBits)
def Sm (B:Nat):Wd→Prop
  | .non=>True
  | .int i=>intBits i≤B
  | .pair a b=>intBits a≤B∧intBits b≤B
instance decSm (B:Nat):(w:Wd)→Decidable (Sm B w)
  | .non=>.isTrue trivial
  | .int i=>inferInstanceAs (Decidable (intBits i≤B))
  | .pair a b=>inferInstanceAs (Decidable (intBits a≤B∧intBits b≤B))
theorem Sm.mono {B C:Nat} (h:B≤C):∀ {w:Wd},Sm B w→Sm C w
  | .non,_=>trivial
  | .int _,z=>Nat.le_trans z h
  | .pair _ _,z=>⟨Nat.le_trans z.1 h,Nat.le_trans z.2 h⟩
def Big:Nat:=16000000
theorem big_mul {i j:Int} (hi:intBits i≤Big) (hj:intBits j≤Big):IntMulOk i j:=IntMulOk.of_le hi hj (by decide)
theorem bits_nat {n B:Nat} (h:n < 2 ^ B):intBits (n:Int)≤B:=intBits_le_iff.mpr (by simpa using h)
theorem bits_le {i:Int} {B:Nat} (h:i.natAbs < 2 ^ B):intBits i≤B:=intBits_le_iff.mpr h
theorem bitAnd_nat (a b:Nat):Builtin.bitAnd (a:Int) (b:Int)=((a &&& b:Nat):Int):=by
  unfold Builtin.bitAnd
  rw [decide_eq_true (Int.natCast_nonneg a),decide_eq_true (Int.natCast_nonneg b)]
  rfl
theorem bitOr_nat (a b:Nat):Builtin.bitOr (a:Int) (b:Int)=((a ||| b:Nat):Int):=by
  unfold Builtin.bitOr Builtin.bitAnd Builtin.bitNot
  rw [decide_eq_false (show ¬ (0:Int)≤-(a:Int) - 1 by omega),decide_eq_false (show ¬ (0:Int)≤-(b:Int) - 1 by omega)]
  dsimp only
  rw [show (-(-(a:Int) - 1) - 1).toNat=a by omega,show (-(-(b:Int) - 1) - 1).toNat=b by omega]
  omega
theorem shl_nat (a k:Nat):(a:Int) * 2 ^ ((k:Int)).toNat=((a <<< k:Nat):Int):=by
  rw [Nat.shiftLeft_eq,Int.natCast_mul,pow_cast,Int.toNat_natCast]
theorem shr_nat (a k:Nat):(a:Int) / 2 ^ ((k:Int)).toNat=((a >>> k:Nat):Int):=by
  rw [Nat.shiftRight_eq_div_pow,Int.natCast_ediv,pow_cast,Int.toNat_natCast]
theorem mask_nat (m:Nat):(1:Int) * 2 ^ ((m:Int)).toNat - 1=((2 ^ m - 1:Nat):Int):=by
  have:0 < 2 ^ m:=Nat.two_pow_pos m
  rw [Int.one_mul,Int.toNat_natCast,← pow_cast]; omega
def kno:Kd→Int
  | .fewest=>0 | .widest=>1 | .counted=>2 | .likeliest=>3 | .chances=>4 | .musts=>5 | .rests _=>6
theorem kno_kdOf {which m:Int} (h0:0≤which) (h7:which < 7):kno (kdOf which m)=which:=by
  have:which=0∨which=1∨which=2∨which=3∨which=4∨which=5∨which=6:=by omega
  rcases this with rfl | rfl | rfl | rfl | rfl | rfl | rfl <;> rfl
theorem noneW_kno (kd:Kd) (ok:KdOk kd):noneW (kno kd)=enc kd (ks kd ok).zero:=by cases kd <;> rfl
theorem restW_kno (kd:Kd) (ok:KdOk kd):restW (kno kd)=enc kd (ks kd ok).one:=by cases kd <;> rfl
theorem bit_one (a k:Nat):Builtin.bitAnd ((a >>> k:Nat):Int) 1=if a.testBit k then 1 else 0:=by
  rw [show (1:Int)=((1:Nat):Int) from rfl,bitAnd_nat,Nat.testBit_eq_decide_div_mod_eq,Nat.and_one_is_mod,Nat.shiftRight_eq_div_pow]
  have:a / 2 ^ k % 2=0∨a / 2 ^ k % 2=1:=by omega
  rcases this with h | h <;> simp [h]
end Ws
namespace Ws
open PySem
open Builtin.Int (intBits)
theorem num_le {t b:Int} (h:0 < b):(Rat.divInt t b).num.natAbs≤t.natAbs:=by
  rw [Rat.num_divInt,Int.sign_eq_one_of_pos h,Int.one_mul]
  exact Int.natAbs_ediv_le_natAbs _ _
theorem den_le {t b:Int} (h:0 < b):(Rat.divInt t b).den≤b.natAbs:=by
  rw [Rat.den_divInt,if_neg (by omega)]
  exact Nat.div_le_self _ _
theorem sm_div {t b:Int} {B:Nat} (h:0 < b) (h1:intBits t≤B) (h2:intBits b≤B):Sm B (ofR (Rat.divInt t b)) :=
  ⟨intBits_le_of_natAbs (num_le h) h1,intBits_le_of_natAbs (by have:=den_le (t:=t) h; omega) h2⟩
theorem sm_addR {p q:Rat} {B C:Nat} (h1:Sm B (ofR p)) (h2:Sm C (ofR q)):Sm (B + C + 1) (ofR (p + q)):=by
  have e:p + q=Rat.divInt (p.num * q.den + q.num * p.den) (p.den * q.den):=by
    rw [← Rat.divInt_add_divInt _ _ (Int.ne_of_gt (den_pos p)) (Int.ne_of_gt (den_pos q)),Rat.num_divInt_den,Rat.num_divInt_den]
  rw [e]
  refine sm_div (Int.mul_pos (den_pos p) (den_pos q)) ?_ ?_
  · have:=intBits_add_le (intBits_mul_le h1.1 h2.2) (intBits_mul_le h2.1 h1.2)
    omega
  · have:=intBits_mul_le h1.2 h2.2
    omega
theorem sm_mulR {p q:Rat} {B C:Nat} (h1:Sm B (ofR p)) (h2:Sm C (ofR q)):Sm (B + C) (ofR (p * q)):=by
  have e:p * q=Rat.divInt (p.num * q.num) (p.den * q.den):=by
    rw [← Rat.divInt_mul_divInt,Rat.num_divInt_den,Rat.num_divInt_den]
  rw [e]
  exact sm_div (Int.mul_pos (den_pos p) (den_pos q)) (intBits_mul_le h1.1 h2.1) (intBits_mul_le h1.2 h2.2)
theorem sm_max {p q:Rat} {B C:Nat} (h1:Sm B (ofR p)) (h2:Sm C (ofR q)):Sm (B + C) (ofR (rmax p q)):=by
  unfold rmax
  split
  · exact h2.mono (by omega)
  · exact h1.mono (by omega)
theorem sm_nat {n m B:Nat} (h:n≤m) (hm:Sm B (.int (m:Int))):Sm B (.int (n:Int)):=intBits_le_of_natAbs (by omega) hm
theorem sm_lt {n B:Nat} (h:n < 2 ^ B):Sm B (.int (n:Int)):=bits_nat h
theorem lt_sm {n B:Nat} (h:Sm B (.int (n:Int))):n < 2 ^ B:=by have:=intBits_le_iff.mp h; simpa using this
theorem sm_add {kd:Kd} {ok:KdOk kd} {x y:Car kd} {B C:Nat} (h1:Sm B (enc kd x)) (h2:Sm C (enc kd y)):Sm (B + C + 1) (enc kd ((ks kd ok).add x y)):=by
  cases kd with
  | fewest =>
    rcases x with _ | i
    · cases y <;> exact h2.mono (by omega)
    · rcases y with _ | j
      · exact h1.mono (by omega)
      · exact (sm_nat (Nat.min_le_left i j) h1).mono (by omega)
  | widest =>
    by_cases c:x.1≤y.1
    · exact (sm_nat (show max x.1 y.1≤y.1 by omega) h2).mono (by omega)
    · exact (sm_nat (show max x.1 y.1≤x.1 by omega) h1).mono (by omega)
  | counted =>
    rcases x with _ | i
    · exact h1.mono (by omega)
    · rcases y with _ | j
      · exact h2.mono (by omega)
      · refine sm_lt ?_
        have:=lt_sm h1
        have:=lt_sm h2
        have e1:2 ^ B≤2 ^ (B + C):=Nat.pow_le_pow_right (by decide) (by omega)
        have e2:2 ^ C≤2 ^ (B + C):=Nat.pow_le_pow_right (by decide) (by omega)
        rw [Nat.pow_succ]; omega
  | likeliest=>exact (sm_max h1 h2).mono (by omega)
  | chances=>exact sm_addR h1 h2
  | musts =>
    rcases x with _ | i
    · cases y <;> exact h2.mono (by omega)
    · rcases y with _ | j
      · exact h1.mono (by omega)
      · exact (sm_nat Nat.and_le_left h1).mono (by omega)
  | rests m =>
    refine sm_lt ?_
    have l1:=lt_sm h1
    have l2:=lt_sm h2
    have e1:2 ^ B≤2 ^ (B + C + 1):=Nat.pow_le_pow_right (by decide) (by omega)
    have e2:2 ^ C≤2 ^ (B + C + 1):=Nat.pow_le_pow_right (by decide) (by omega)
    exact Nat.or_lt_two_pow (by omega) (by omega)
theorem sm_mul {kd:Kd} {ok:KdOk kd} {x y:Car kd} {B C:Nat} (h1:Sm B (enc kd x)) (h2:Sm C (enc kd y)):Sm (B + C + 12) (enc kd ((ks kd ok).mul x y)):=by
  cases kd with
  | fewest =>
    rcases x with _ | i
    · exact trivial
    · rcases y with _ | j
      · exact trivial
      · refine sm_lt ?_
        have:=lt_sm h1
        have:=lt_sm h2
        have e1:2 ^ B≤2 ^ (B + C):=Nat.pow_le_pow_right (by decide) (by omega)
        have e2:2 ^ C≤2 ^ (B + C):=Nat.pow_le_pow_right (by decide) (by omega)
        have e3:2 ^ (B + C + 1)≤2 ^ (B + C + 12):=Nat.pow_le_pow_right (by decide) (by omega)
        rw [Nat.pow_succ] at e3; omega
  | widest=>exact (sm_nat (show min x.1 y.1≤x.1 by omega) h1).mono (by omega)
  | counted =>
    rcases x with _ | i
    · rcases y with _ | _ | j
      · exact (show Sm 1 (.int (-1)) by decide).mono (by omega)
      · exact (show Sm 1 (.int 0) by decide).mono (by omega)
      · exact (show Sm 1 (.int (-1)) by decide).mono (by omega)
    · rcases y with _ | j
      · rcases i with _ | i
        · exact (show Sm 1 (.int 0) by decide).mono (by omega)
        · exact (show Sm 1 (.int (-1)) by decide).mono (by omega)
      · show Sm _ (enc .counted (oMul (some i) (some j)))
        rw [oMul_some]
        have:=intBits_mul_le h1 h2
        show intBits ((i * j:Nat):Int)≤_
        rw [Int.natCast_mul]; omega
  | likeliest=>exact (sm_mulR h1 h2).mono (by omega)
  | chances=>exact (sm_mulR h1 h2).mono (by omega)
  | musts =>
    rcases x with _ | i
    · exact trivial
    · rcases y with _ | j
      · exact trivial
      · refine sm_lt ?_
        have l1:=lt_sm h1
        have l2:=lt_sm h2
        have e1:2 ^ B≤2 ^ (B + C + 12):=Nat.pow_le_pow_right (by decide) (by omega)
        have e2:2 ^ C≤2 ^ (B + C + 12):=Nat.pow_le_pow_right (by decide) (by omega)
        exact Nat.or_lt_two_pow (by omega) (by omega)
  | rests m =>
    refine (sm_lt (B:=12) ?_).mono (by omega)
    exact Nat.lt_of_lt_of_le (behN_lt y.2) (Nat.pow_le_pow_right (by decide) ok.2)
theorem sm_star {kd:Kd} {ok:KdOk kd} {x s:Car kd} {B:Nat} (h:Sm B (enc kd x)) (e:(ks kd ok).star x=some s):Sm (B + 30) (enc kd s):=by
  cases kd with
  | fewest=>cases e; exact (show Sm 1 (.int 0) by decide).mono (by omega)
  | widest=>cases e; exact (show Sm 30 (.int 1000000000) by decide).mono (by omega)
  | counted =>
    cases e
    rcases x with _ | _ | n
    · exact (show Sm 1 (.int (-1)) by decide).mono (by omega)
    · exact (show Sm 1 (.int 1) by decide).mono (by omega)
    · exact (show Sm 1 (.int (-1)) by decide).mono (by omega)
  | likeliest=>cases e; exact (show Sm 1 (.pair 1 1) by decide).mono (by omega)
  | chances =>
    have e:(if h:x.1 < 1 then some (⟨(1 - x.1)⁻¹,rinv_nonneg h⟩:Cha) else none)=some s:=e
    split at e
    · rename_i lt
      cases e
      have l:=lt_one.mpr lt
      have n:=Rat.num_nonneg.mpr x.2
      have:Sm (B + 30) (ofR (Rat.divInt x.1.den (x.1.den - x.1.num))):=by
        refine (sm_div (B:=B) (by omega) h.2 (intBits_le_of_natAbs (y:=x.1.den) (by omega) h.2)).mono (by omega)
      rw [← Rat.inv_divInt,lack_divInt] at this
      exact this
    · cases e
  | musts=>cases e; exact (show Sm 1 (.int 0) by decide).mono (by omega)
  | rests m =>
    cases e
    refine (sm_lt (B:=12) ?_).mono (by omega)
    exact Nat.lt_of_lt_of_le (rndTo_lt ok.1 x.2 m) (Nat.pow_le_pow_right (by decide) ok.2)
theorem sm_one (kd:Kd) (ok:KdOk kd):Sm 30 (enc kd (ks kd ok).one):=by
  cases kd with
  | fewest=>exact (show Sm 30 (.int 0) by decide)
  | widest=>exact (show Sm 30 (.int 1000000000) by decide)
  | counted=>exact (show Sm 30 (.int 1) by decide)
  | likeliest=>exact (show Sm 30 (.pair 1 1) by decide)
  | chances=>exact (show Sm 30 (.pair 1 1) by decide)
  | musts=>exact (show Sm 30 (.int 0) by decide)
  | rests m=>exact (show Sm 1 (.int 1) by decide).mono (by decide)
theorem sm_zero (kd:Kd) (ok:KdOk kd):Sm 1 (enc kd (ks kd ok).zero):=by
  cases kd with
  | fewest=>exact (show Sm 1 (.non) by decide)
  | widest=>exact (show Sm 1 (.int 0) by decide)
  | counted=>exact (show Sm 1 (.int 0) by decide)
  | likeliest=>exact (show Sm 1 (.pair 0 1) by decide)
  | chances=>exact (show Sm 1 (.pair 0 1) by decide)
  | musts=>exact (show Sm 1 (.non) by decide)
  | rests m=>exact (show Sm 1 (.int 0) by decide)
theorem sm_shareW {t b:Int} {B:Nat} (h:0 < b) (h1:intBits t≤B) (h2:intBits b≤B):Sm B (shareW t b):=by
  rw [shareW_ofR h]; exact sm_div h h1 h2
theorem sm_worthW {which m cell:Int} (m1:1≤m) (m2:m≤12):Sm 110 (worthW which m cell):=by
  have p30:(10:Int) ^ 30 < 2 ^ 110:=by decide
  have b30:∀ c:Int,intBits (c % 10 ^ 30)≤110:=fun c=>bits_le (by
    have:=Int.emod_nonneg c (show (10:Int) ^ 30≠0 by decide)
    have:=Int.emod_lt_of_pos c (show (0:Int) < 10 ^ 30 by decide)
    have:(2:Nat) ^ 110=((2:Int) ^ 110).toNat:=by decide
    omega)
  have sm:∀ i:Int,-1≤i→i≤10 ^ 9→intBits i≤110:=fun i h1 h2=>bits_le (by
    have:(10:Int) ^ 9 < 2 ^ 110:=by decide
    have:(2:Nat) ^ 110=((2:Int) ^ 110).toNat:=by decide
    omega)
  unfold worthW
  split
  · unfold noneW; split
    · exact trivial
    · split <;> decide
  split
  · unfold restW; split
    · decide
    · split
      · decide
      · split <;> decide
  split
  · show intBits _≤_
    split
    · exact sm _ (by omega) (by omega)
    · exact b30 _
  split
  · show intBits _≤_
    split
    · exact sm _ (by omega) (by omega)
    · exact sm _ (by omega) (by omega)
  split
  · show intBits _≤_
    split
    · exact sm _ (by omega) (by omega)
    · exact b30 _
  split
  · have b1:0≤cell / 6 / 7 % 12:=Int.emod_nonneg _ (by decide)
    have b2:cell / 6 / 7 % 12 < 12:=Int.emod_lt_of_pos _ (by decide)
    have lt:=Int.emod_lt_of_pos (cell / 6) (show 0 < 1 + cell / 6 / 7 % 12 + 1 by omega)
    have nn:=Int.emod_nonneg (cell / 6) (show 1 + cell / 6 / 7 % 12 + 1≠0 by omega)
    exact sm_shareW (by omega) (sm _ (by omega) (by omega)) (sm _ (by omega) (by omega))
  split
  · exact sm_shareW (by omega) (sm _ (by omega) (by omega)) (sm _ (by omega) (by omega))
  split
  · show intBits _≤_
    split
    · exact sm _ (by omega) (by omega)
    · exact b30 _
  · have p:(0:Int) < 2 ^ m.toNat:=Int.pow_pos (by decide)
    have nn:=Int.emod_nonneg (cell / 6) (Int.ne_of_gt p)
    have lt:=Int.emod_lt_of_pos (cell / 6) p
    have le:(2:Int) ^ m.toNat≤2 ^ 12:=by
      rw [← pow_cast,← pow_cast]
      exact Int.ofNat_le.mpr (Nat.pow_le_pow_right (by decide) (by omega))
    have:(2:Int) ^ 12≤10 ^ 9:=by decide
    exact sm _ (by omega) (by omega)
end Ws
namespace Ws
open PySem
open Builtin.Int (intBits)
structure Road where
  f:Int
  t:Int
  w:Wd
  deriving DecidableEq
def toR:Wd→Rat
  | .pair a b=>Rat.divInt a b
  | _=>0
theorem toR_ofR (q:Rat):toR (ofR q)=q:=Rat.num_divInt_den q
theorem ofR_toR:∀ {w:Wd},isShare w=true→ofR (toR w)=w
  | .pair a b,h=>by
    obtain ⟨q,rfl,rfl⟩:=share_is h
    show ofR (Rat.divInt q.num q.den)=ofR q
    rw [Rat.num_divInt_den]
def shSum (ws:List Wd):Rat:=((ws.filter isShare).map toR).sum
def mayB:Kd→List Wd→Bool
  | .chances,ws=>decide (shSum ws≤1)
  | _,_=>true
def frm (p:Int) (rs:List Road):List Wd:=(rs.filter fun r=>decide (r.f=p)).map (·.w)
def endOk (n:Int) (r:Road):Bool:=decide (0≤r.f) && decide (r.f < n) && (decide (0≤r.t) && decide (r.t < n))
def numsOk (n:Int) (k:Nat):Bool:=decide (1≤n) && decide (n≤8) && decide (k≤64)
def startsOk (kd:Kd) (n:Int) (rs:List Road):Bool:=(List.range n.toNat).all fun p=>mayB kd (frm (p:Int) rs)
def worthsOk (kd:Kd) (rs:List Road):Bool:=rs.all fun r=>isWorth kd r.w
def netYes (kd:Kd) (n:Int) (rs:List Road):Bool:=numsOk n rs.length && (rs.all (endOk n) && startsOk kd n rs)
structure Good (kd:Kd) (most extra:Nat) (n:Nat) (rs:List Road):Prop where
  n1:1≤n
  n2:n≤most
  len:rs.length≤extra
  ends:rs.all (endOk n)=true
  worths:worthsOk kd rs=true
  sm:∀ r∈rs,Sm 200 r.w
  den:kd=.chances→∃ D:Int→Nat,∀ r∈rs,0 < D r.f∧D r.f < 2 ^ 24∧∃ k:Nat,toR r.w * (D r.f:Rat)=(k:Rat)
  starts:kd=.chances→∀ p:Int,shSum (frm p rs)≤1
theorem Good.yes {kd:Kd} {most extra n:Nat} {rs:List Road} (g:Good kd most extra n rs) (h8:most≤8) (h64:extra≤64):netYes kd n rs=true:=by
  have n1:=g.n1
  have n2:=g.n2
  have l:=g.len
  simp only [netYes,numsOk,Bool.and_eq_true,decide_eq_true_eq]
  refine ⟨⟨⟨by omega,by omega⟩,by omega⟩,g.ends,?_⟩
  simp only [startsOk,List.all_eq_true]
  intro p _
  cases kd <;> first | rfl | exact decide_eq_true (g.starts rfl p)
def shAll (ws:List Wd):Rat:=(ws.map toR).sum
theorem sum_mul (c:Rat):∀ l:List Rat,(l.map (· * c)).sum=l.sum * c
  | []=>by simp
  | x :: l=>by simp only [List.map_cons,List.sum_cons,sum_mul c l]; grind
def thinW (rs:List Road) (r:Road):Wd:=if 1 < shAll (frm r.f rs) then ofR (toR r.w * (shAll (frm r.f rs))⁻¹) else r.w
def thin (rs:List Road):List Road:=rs.map fun r=>{ r with w:=thinW rs r }
theorem frm_thin (p:Int) (rs:List Road):frm p (thin rs)=(rs.filter fun r=>decide (r.f=p)).map (thinW rs):=by
  unfold frm thin
  rw [List.filter_map,List.map_map]
  rfl
theorem sh_thin {p:Int} {rs:List Road} (hs:∀ r∈rs,isShare r.w=true):shSum (frm p (thin rs))≤1:=by
  have all:∀ r∈rs,isShare (thinW rs r)=true:=fun r hr=>by
    unfold thinW; split
    · exact ofR_share _
    · exact hs r hr
  rw [frm_thin]
  unfold shSum
  rw [List.filter_eq_self.mpr (fun w hw=>by
    obtain ⟨r,hr,rfl⟩:=List.mem_map.mp hw
    exact all r (List.mem_filter.mp hr).1),List.map_map]
  by_cases c:1 < shAll (frm p rs)
  · have e:(rs.filter fun r=>decide (r.f=p)).map (toR ∘ thinW rs)=((rs.filter fun r=>decide (r.f=p)).map fun r=>toR r.w).map (· * (shAll (frm p rs))⁻¹):=by
      rw [List.map_map]
      refine List.map_congr_left fun r hr=>?_
      have:r.f=p:=of_decide_eq_true (List.mem_filter.mp hr).2
      subst this
      show toR (thinW rs r)=toR r.w * _
      unfold thinW
      rw [if_pos c,toR_ofR]
    rw [e,sum_mul]
    have:((rs.filter fun r=>decide (r.f=p)).map fun r=>toR r.w).sum=shAll (frm p rs):=by
      unfold shAll frm
      rw [List.map_map]
      rfl
    rw [this,Rat.mul_inv_cancel _ (by grind)]
    exact Rat.le_refl
  · have e:(rs.filter fun r=>decide (r.f=p)).map (toR ∘ thinW rs)=(frm p rs).map toR:=by
      unfold frm
      rw [List.map_map]
      refine List.map_congr_left fun r hr=>?_
      have:r.f=p:=of_decide_eq_true (List.mem_filter.mp hr).2
      subst this
      show toR (thinW rs r)=toR r.w
      unfold thinW
      rw [if_neg c]
    rw [e]
    exact Rat.not_lt.mp c
end Ws
namespace Ws
open PySem
open Builtin.Int (intBits)
theorem rat_of_mul {q:Rat} {D k:Nat} (hD:0 < D) (h:q * (D:Rat)=(k:Rat)):q=Rat.divInt (k:Int) (D:Int):=by
  have z:(D:Rat)≠0:=by exact_mod_cast (Nat.ne_of_gt hD)
  rw [Rat.divInt_eq_div,Rat.div_def,Rat.intCast_natCast,Rat.intCast_natCast,← h,Rat.mul_assoc,Rat.mul_inv_cancel _ z,Rat.mul_one]
theorem sm_of_mul {q:Rat} {D k B:Nat} (hD:0 < D) (h:q * (D:Rat)=(k:Rat)) (h1:k < 2 ^ B) (h2:D < 2 ^ B):Sm B (ofR q):=by
  rw [rat_of_mul hD h]
  exact sm_div (by omega) (bits_nat h1) (bits_nat h2)
theorem draw4 {m cell:Int}:∃ k:Nat,toR (worthW 4 m cell) * (27720:Rat)=(k:Rat)∧k≤221760:=by
  have key:∀ t b:Int,0≤t→t≤8→1≤b→b≤12→∃ k:Nat,toR (shareW t b) * (27720:Rat)=(k:Rat)∧k≤221760:=by
    intro t b t0 t8 b1 b12
    rw [shareW_ofR (by omega),toR_ofR]
    have hb:∃ c:Nat,(c:Int) * b=27720∧c≤27720:=by
      have:b=1∨b=2∨b=3∨b=4∨b=5∨b=6∨b=7∨b=8∨b=9∨b=10∨b=11∨b=12:=by omega
      rcases this with rfl | rfl | rfl | rfl | rfl | rfl | rfl | rfl | rfl | rfl | rfl | rfl
      · exact ⟨27720,by decide,by decide⟩
      · exact ⟨13860,by decide,by decide⟩
      · exact ⟨9240,by decide,by decide⟩
      · exact ⟨6930,by decide,by decide⟩
      · exact ⟨5544,by decide,by decide⟩
      · exact ⟨4620,by decide,by decide⟩
      · exact ⟨3960,by decide,by decide⟩
      · exact ⟨3465,by decide,by decide⟩
      · exact ⟨3080,by decide,by decide⟩
      · exact ⟨2772,by decide,by decide⟩
      · exact ⟨2520,by decide,by decide⟩
      · exact ⟨2310,by decide,by decide⟩
    obtain ⟨c,hc,c2⟩:=hb
    obtain ⟨u,rfl⟩:∃ u:Nat,t=u:=⟨t.toNat,by omega⟩
    refine ⟨u * c,?_,?_⟩
    · have e:(27720:Rat)=(c:Rat) * ((b:Int):Rat):=by
        have:=congrArg (fun z:Int=>(z:Rat)) hc
        simp only [Rat.intCast_mul,Rat.intCast_natCast] at this
        rw [this]; rfl
      have z:((b:Int):Rat)≠0:=by exact_mod_cast (show b≠0 by omega)
      rw [e,Rat.divInt_eq_div,Rat.div_def,Rat.natCast_mul,Rat.intCast_natCast]
      generalize ((b:Int):Rat)=x at z
      generalize (u:Rat)=y
      generalize (c:Rat)=v
      have:x⁻¹ * x=1:=Rat.inv_mul_cancel _ z
      grind
    · have:u≤8:=by omega
      calc u * c≤8 * 27720:=Nat.mul_le_mul this c2
        _=221760:=by decide
  unfold worthW
  split
  · exact ⟨0,by decide +kernel,by decide⟩
  split
  · exact ⟨27720,by decide +kernel,by decide⟩
  simp only [show ¬ ((4:Int)=0) by decide,show ¬ ((4:Int)=1) by decide,show ¬ ((4:Int)=2) by decide,show ¬ ((4:Int)=3) by decide,if_false,if_true]
  have:=Int.emod_nonneg (cell / 6) (show (9:Int)≠0 by decide)
  have:=Int.emod_lt_of_pos (cell / 6) (show (0:Int) < 9 by decide)
  have:=Int.emod_nonneg (cell / 6 / 9) (show (12:Int)≠0 by decide)
  have:=Int.emod_lt_of_pos (cell / 6 / 9) (show (0:Int) < 12 by decide)
  exact key _ _ (by omega) (by omega) (by omega) (by omega)
theorem draws_sum {m:Int}:∀ ws:List Wd,(∀ x∈ws,∃ c,x=worthW 4 m c)→∃ W:Nat,shAll ws * (27720:Rat)=(W:Rat)∧W≤221760 * ws.length
  | [],_=>⟨0,by simp [shAll],by simp⟩
  | x :: ws,h=>by
    obtain ⟨W,e,l⟩:=draws_sum ws fun y hy=>h y (List.mem_cons_of_mem _ hy)
    obtain ⟨c,rfl⟩:=h x List.mem_cons_self
    obtain ⟨k,ek,lk⟩:=draw4 (m:=m) (cell:=c)
    refine ⟨k + W,?_,by rw [List.length_cons]; omega⟩
    unfold shAll at e ⊢
    rw [List.map_cons,List.sum_cons,Rat.natCast_add,← ek,← e]
    grind
theorem frm_len (p:Int) (rs:List Road):(frm p rs).length≤rs.length:=by
  unfold frm; rw [List.length_map]; exact List.length_filter_le _ _
theorem worth4_share {m c:Int} (hm:1≤m):isShare (worthW 4 m c)=true:=by
  have:=isWorth_worth (which:=4) (m:=m) (cell:=c) (by decide) (by decide) hm
  rw [show kdOf 4 m=.chances from rfl] at this
  revert this
  generalize worthW 4 m c=x
  cases x with
  | pair a b=>simp only [isWorth,Bool.and_eq_true]; exact fun h=>h.1
  | _=>intro h; simp [isWorth] at h
theorem num_nonneg_share {q:Rat} (h:0≤q):isWorth .chances (ofR q)=true:=isWorth_enc (kd:=.chances) ⟨q,h⟩
theorem toR_nonneg:∀ {w:Wd},isWorth .chances w=true→0≤toR w
  | .pair a b,h=>by
    simp only [isWorth,Bool.and_eq_true,decide_eq_true_eq] at h
    obtain ⟨q,rfl,rfl⟩:=share_is h.1
    show 0≤Rat.divInt q.num q.den
    rw [Rat.num_divInt_den]
    exact Rat.num_nonneg.mp h.2
theorem sum_nonneg:∀ l:List Rat,(∀ x∈l,0≤x)→0≤l.sum
  | [],_=>by simp
  | x :: l,h=>by
    rw [List.sum_cons]
    have:=sum_nonneg l fun y hy=>h y (List.mem_cons_of_mem _ hy)
    have:=h x List.mem_cons_self
    grind
theorem drawn_good {which m:Int} {most extra n:Nat} {rs:List Road} (h0:0≤which) (h7:which < 7) (m1:1≤m) (m2:m≤12) (n1:1≤n) (n2:n≤most) (len:rs.length≤extra) (hx:extra≤64) (ends:rs.all (endOk n)=true)
    (hw:∀ r∈rs,∃ c,r.w=worthW which m c):Good (kdOf which m) most extra n (if which=4 then thin rs else rs):=by
  by_cases h4:which=4
  · subst h4
    rw [if_pos rfl]
    have sh:∀ r∈rs,isShare r.w=true:=fun r hr=>by obtain ⟨c,e⟩:=hw r hr; rw [e]; exact worth4_share m1
    have W:∀ p,∃ W:Nat,shAll (frm p rs) * (27720:Rat)=(W:Rat)∧W < 2 ^ 24:=fun p=>by
      obtain ⟨W,e,l⟩:=draws_sum (m:=m) (frm p rs) fun x hx=>by
        obtain ⟨r,hr,rfl⟩:=List.mem_map.mp hx
        exact hw r (List.mem_filter.mp hr).1
      refine ⟨W,e,Nat.lt_of_le_of_lt l ?_⟩
      have:=frm_len p rs
      calc 221760 * (frm p rs).length≤221760 * 64:=Nat.mul_le_mul_left _ (by omega)
        _ < 2 ^ 24:=by decide
    have wt:∀ r∈rs,isWorth .chances (thinW rs r)=true∧∃ D:Nat,(∃ k:Nat,toR (thinW rs r) * (D:Rat)=(k:Rat)∧k < 2 ^ 24)∧(if 1 < shAll (frm r.f rs) then shAll (frm r.f rs) * 27720=(D:Rat) else D=27720)∧0 < D∧D < 2 ^ 24:=fun r hr=>by
      obtain ⟨c,e⟩:=hw r hr
      obtain ⟨k,ek,lk⟩:=draw4 (m:=m) (cell:=c)
      have iw:isWorth .chances r.w=true:=by rw [e]; exact isWorth_worth (which:=4) (by decide) (by decide) m1
      have lk:k < 2 ^ 24:=Nat.lt_of_le_of_lt lk (by decide)
      unfold thinW
      by_cases c1:1 < shAll (frm r.f rs)
      · obtain ⟨W,eW,lW⟩:=W r.f
        rw [if_pos c1]
        have pos:0 < shAll (frm r.f rs):=by grind
        have ipos:0≤(shAll (frm r.f rs))⁻¹:=by
          exact Rat.le_of_lt (Rat.inv_pos.mpr pos)
        refine ⟨num_nonneg_share (Rat.mul_nonneg (toR_nonneg iw) ipos),W,⟨k,?_,lk⟩,by rw [if_pos c1]; exact eW,?_,lW⟩
        · rw [toR_ofR,← eW,← ek,e]
          have z:shAll (frm r.f rs)≠0:=by grind
          have:(shAll (frm r.f rs))⁻¹ * shAll (frm r.f rs)=1:=Rat.inv_mul_cancel _ z
          generalize shAll (frm r.f rs)=x at this
          grind
        · rcases Nat.eq_zero_or_pos W with z | z
          · subst z
            exfalso
            have:shAll (frm r.f rs) * 27720=0:=eW
            grind
          · exact z
      · rw [if_neg c1]
        exact ⟨iw,27720,⟨k,by rw [e]; exact ek,lk⟩,by rw [if_neg c1],by decide,by decide⟩
    refine ⟨n1,n2,by unfold thin; rw [List.length_map]; exact len,?_,?_,fun r0 hr0=>?_,fun _=>?_,fun _ p=>sh_thin sh⟩
    · unfold thin
      rw [List.all_map]
      exact ends
    · unfold worthsOk thin
      rw [List.all_map,List.all_eq_true]
      exact fun r hr=>(wt r hr).1
    · obtain ⟨r,hr,rfl⟩:=List.mem_map.mp hr0
      obtain ⟨iw,D,⟨k,ek,lk⟩,_,D0,D1⟩:=wt r hr
      have si:isShare (thinW rs r)=true:=by
        unfold thinW; split
        · exact ofR_share _
        · exact sh r hr
      show Sm 200 (thinW rs r)
      rw [← ofR_toR si]
      exact (sm_of_mul D0 ek lk D1).mono (by decide)
    · refine ⟨fun p=>if 1 < shAll (frm p rs) then (W p).choose else 27720,fun r0 hr0=>?_⟩
      obtain ⟨r,hr,rfl⟩:=List.mem_map.mp hr0
      obtain ⟨iw,D,⟨k,ek,lk⟩,hD,D0,D1⟩:=wt r hr
      have:(if 1 < shAll (frm r.f rs) then (W r.f).choose else 27720)=D:=by
        by_cases c1:1 < shAll (frm r.f rs)
        · rw [if_pos c1] at hD ⊢
          have:=hD.symm.trans (W r.f).choose_spec.1
          exact_mod_cast this.symm
        · rw [if_neg c1] at hD ⊢
          exact hD.symm
      refine ⟨?_,?_,k,?_⟩
      · show 0 < (if 1 < shAll (frm r.f rs) then (W r.f).choose else 27720)
        rw [this]; exact D0
      · show (if 1 < shAll (frm r.f rs) then (W r.f).choose else 27720) < 2 ^ 24
        rw [this]; exact D1
      · show toR (thinW rs r) * ((if 1 < shAll (frm r.f rs) then (W r.f).choose else 27720:Nat):Rat)=(k:Rat)
        rw [this]; exact ek
  · rw [if_neg h4]
    have nc:kdOf which m≠.chances:=fun e=>h4 (by have:=kno_kdOf (m:=m) h0 h7; rw [e] at this; exact this.symm)
    refine ⟨n1,n2,len,ends,?_,fun r hr=>?_,fun e=>absurd e nc,fun e=>absurd e nc⟩
    · unfold worthsOk
      rw [List.all_eq_true]
      intro r hr
      obtain ⟨c,e⟩:=hw r hr
      rw [e]
      exact isWorth_worth h0 h7 m1
    · obtain ⟨c,e⟩:=hw r hr
      rw [e]
      exact (sm_worthW m1 m2).mono (by decide)
end Ws
namespace Ws
theorem kno_lo (kd:Kd):0≤kno kd:=by cases kd <;> simp [kno]
theorem kno_hi (kd:Kd):kno kd < 7:=by cases kd <;> simp [kno]
end Ws
namespace Ws
end Ws
namespace Ws
open PySem
structure Edge (S:Type) where
  f:Nat
  t:Nat
  c:S
def Edge.road (kd:Kd) (e:Edge (Car kd)):Road:=⟨e.f,e.t,enc kd e.c⟩
theorem edges_of {kd:Kd} {n:Nat}:∀ {rs:List Road},rs.all (endOk n)=true→worthsOk kd rs=true→∃ es:List (Edge (Car kd)),rs=es.map (Edge.road kd)∧∀ e∈es,e.f < n∧e.t < n
  | [],_,_=>⟨[],rfl,fun _ h=>nomatch h⟩
  | r :: rs,h1,h2=>by
    rw [List.all_cons,Bool.and_eq_true] at h1
    unfold worthsOk at h2
    rw [List.all_cons,Bool.and_eq_true] at h2
    obtain ⟨es,rfl,he⟩:=edges_of h1.2 h2.2
    obtain ⟨x,hx⟩:=enc_surj h2.1
    have h:=h1.1
    simp only [endOk,Bool.and_eq_true,decide_eq_true_eq] at h
    refine ⟨⟨r.f.toNat,r.t.toNat,x⟩ :: es,?_,fun e he'=>?_⟩
    · rw [List.map_cons]
      congr 1
      obtain ⟨f,t,w⟩:=r
      simp only [Edge.road] at *
      rw [← hx,show ((f.toNat:Nat):Int)=f by omega,show ((t.toNat:Nat):Int)=t by omega]
    · rcases List.mem_cons.mp he' with rfl | he'
      · exact ⟨by show r.f.toNat < n; omega,by show r.t.toNat < n; omega⟩
      · exact he e he'
structure Graph (kd:Kd) (n:Nat) (es:List (Edge (Car kd))):Prop where
  nb:n≤8
  ends:∀ e∈es,e.f < n∧e.t < n
  sm:∀ e∈es,Sm 200 (enc kd e.c)
  den:kd=.chances→∃ L:Nat,0 < L∧L < 2 ^ 192∧∀ e∈es,∃ k:Nat,toR (enc kd e.c) * (L:Rat)=(k:Rat)
  sub:kd=.chances→∀ p:Int,shSum (frm p (es.map (Edge.road kd)))≤1
def prodTo (f:Nat→Nat):Nat→Nat
  | 0=>1
  | n + 1=>prodTo f n * f n
theorem prodTo_pos {f:Nat→Nat} (h:∀ i,0 < f i):∀ n,0 < prodTo f n
  | 0=>Nat.one_pos
  | n + 1=>Nat.mul_pos (prodTo_pos h n) (h n)
theorem prodTo_lt {f:Nat→Nat} {B:Nat} (h:∀ i,f i < 2 ^ B):∀ n,prodTo f n≤2 ^ (B * n)
  | 0=>by simp [prodTo]
  | n + 1=>by
    rw [Nat.mul_succ,Nat.pow_add]
    exact Nat.mul_le_mul (prodTo_lt h n) (Nat.le_of_lt (h n))
theorem prodTo_dvd {f:Nat→Nat}:∀ {n i:Nat},i < n→f i ∣ prodTo f n
  | n + 1,i,h=>by
    by_cases e:i=n
    · subst e; exact Nat.dvd_mul_left _ _
    · exact Nat.dvd_trans (prodTo_dvd (show i < n by omega)) (Nat.dvd_mul_right _ _)
theorem Good.graph {kd:Kd} {most extra n:Nat} {rs:List Road} (G:Good kd most extra n rs) (h8:most≤8):∃ es:List (Edge (Car kd)),rs=es.map (Edge.road kd)∧Graph kd n es:=by
  obtain ⟨es,rfl,he⟩:=edges_of G.ends G.worths
  refine ⟨es,rfl,Nat.le_trans G.n2 h8,he,fun e h=>G.sm _ (List.mem_map.mpr ⟨e,h,rfl⟩),fun hc=>?_,fun hc p=>G.starts hc p⟩
  obtain ⟨D,hD⟩:=G.den hc
  have n8:n≤8:=Nat.le_trans G.n2 h8
  let f:Nat→Nat:=fun i=>if 0 < D i∧D i < 2 ^ 24 then D i else 1
  have f0:∀ i,0 < f i:=fun i=>by show 0 < (if _ then _ else _); split <;> omega
  have f1:∀ i,f i < 2 ^ 24:=fun i=>by
    show (if _ then _ else _) < _
    split
    · rename_i h; exact h.2
    · decide
  have lt:prodTo f n < 2 ^ 192 * 1 + 1:=by
    have:=prodTo_lt f1 n
    have:2 ^ (24 * n)≤2 ^ 192:=Nat.pow_le_pow_right (by decide) (by omega)
    omega
  by_cases top:prodTo f n=2 ^ 192
  · exfalso
    have:prodTo f n < 2 ^ 192:=by
      cases n with
      | zero=>exact absurd G.n1 (by decide)
      | succ k =>
        show prodTo f k * f k < _
        have a1:=prodTo_lt f1 k
        have a2:2 ^ (24 * k)≤2 ^ 168:=Nat.pow_le_pow_right (by decide) (by omega)
        calc prodTo f k * f k≤2 ^ 168 * f k:=Nat.mul_le_mul_right _ (by omega)
          _ < 2 ^ 168 * 2 ^ 24:=Nat.mul_lt_mul_of_pos_left (f1 k) (Nat.two_pow_pos _)
          _=2 ^ 192:=by rw [← Nat.pow_add]
    omega
  · refine ⟨prodTo f n,prodTo_pos f0 n,by omega,fun e he'=>?_⟩
    obtain ⟨d0,d1,k,ek⟩:=hD _ (List.mem_map.mpr ⟨e,he',rfl⟩)
    have ef:f e.f=D (e.f:Int):=by show (if _ then _ else _)=_; exact if_pos ⟨d0,d1⟩
    obtain ⟨c,hc⟩:=prodTo_dvd (f:=f) (he e he').1
    refine ⟨k * c,?_⟩
    rw [hc,ef,Rat.natCast_mul,Rat.natCast_mul,← ek,Rat.mul_assoc]
    rfl
def walkE {S:Type} (M:KSR S) (es:List (Edge S)):Nat→S→List Int→Option (Nat × S)
  | h,x,[]=>some (h,x)
  | h,x,k :: row=>if k < 0∨(es.length:Int)≤k then none else match es[k.toNat]? with
    | none=>none
    | some e=>if e.f=h then walkE M es e.t (M.mul x e.c) row else none
end Ws
namespace Ws
theorem walkE_app {S:Type} (M:KSR S) (es:List (Edge S)):∀ (r1 r2:List Int) (h:Nat) (x:S),walkE M es h x (r1 ++ r2)=(walkE M es h x r1).bind fun p=>walkE M es p.1 p.2 r2
  | [],r2,h,x=>rfl
  | k :: r1,r2,h,x=>by
    rw [List.cons_append,walkE,walkE]
    split
    · rfl
    · cases es[k.toNat]? with
      | none=>rfl
      | some e =>
        dsimp only
        split
        · exact walkE_app M es r1 r2 e.t (M.mul x e.c)
        · rfl
structure Walked {S:Type} (M:KSR S) (es:List (Edge S)) (p:Nat) (row ss:List Nat) (x:S):Prop where
  len:ss.length=row.length + 1
  at_:∀ j,j≤row.length→∃ h y,ss[j]?=some h∧walkE M es p M.one ((row.take j).map fun k:Nat=>(k:Int))=some (h,y)
  end_:∃ h,ss[row.length]?=some h∧walkE M es p M.one (row.map fun k:Nat=>(k:Int))=some (h,x)
theorem Walked.more {S:Type} {M:KSR S} {es:List (Edge S)} {p:Nat} {row ss:List Nat} {x:S} {k h:Nat} {e:Edge S} (W:Walked M es p row ss x) (hh:ss[row.length]?=some h) (ek:es[k]?=some e) (hf:e.f=h) :
    Walked M es p (row ++ [k]) (ss ++ [e.t]) (M.mul x e.c):=by
  obtain ⟨h',e1,e2⟩:=W.end_
  rw [hh] at e1; cases e1
  have lk:k < es.length:=(List.getElem?_eq_some_iff.mp ek).1
  have fin:walkE M es p M.one ((row ++ [k]).map fun k:Nat=>(k:Int))=some (e.t,M.mul x e.c):=by
    rw [List.map_append,walkE_app,e2]
    show walkE M es h x [(k:Int)]=_
    rw [walkE,if_neg (by omega),Int.toNat_natCast,ek]
    dsimp only
    rw [if_pos hf]; rfl
  have l:=W.len
  refine ⟨by simp only [List.length_append,List.length_singleton]; omega,fun j hj=>?_,e.t,?_,fin⟩
  · rw [List.length_append,List.length_singleton] at hj
    by_cases c:j≤row.length
    · obtain ⟨h2,y,f1,f2⟩:=W.at_ j c
      refine ⟨h2,y,?_,?_⟩
      · rw [List.getElem?_append_left (by omega)]; exact f1
      · rw [List.take_append_of_le_length c]; exact f2
    · obtain rfl:j=row.length + 1:=by omega
      refine ⟨e.t,M.mul x e.c,?_,?_⟩
      · rw [List.getElem?_append_right (by omega)]; simp [l]
      · rw [List.take_of_length_le (by simp)]; exact fin
  · rw [List.length_append,List.length_singleton,List.getElem?_append_right (by omega)]; simp [l]
end Ws
namespace Ws
end Ws
namespace Ws
namespace KSR
variable {S : Type} (M : KSR S)
def sum (l:List S):S:=l.foldr M.add M.zero
theorem sum_app:∀ l r:List S,M.sum (l ++ r)=M.add (M.sum l) (M.sum r)
  | [],r=>(M.zero_add _).symm
  | x :: l,r=>by
    show M.add x (M.sum (l ++ r))=_
    rw [sum_app l r,← M.add_assoc]; rfl
theorem sum_snoc (l:List S) (x:S):M.sum (l ++ [x])=M.add (M.sum l) x:=by
  rw [M.sum_app]
  show M.add _ (M.add x M.zero)=_
  rw [M.add_zero]
theorem sum_mul (c:S):∀ l:List S,M.mul (M.sum l) c=M.sum (l.map fun x=>M.mul x c)
  | []=>M.zero_mul c
  | x :: l=>by
    show M.mul (M.add x (M.sum l)) c=M.add (M.mul x c) (M.sum (l.map _))
    rw [M.add_mul,sum_mul c l]
theorem mul_sum (c:S):∀ l:List S,M.mul c (M.sum l)=M.sum (l.map fun x=>M.mul c x)
  | []=>M.mul_zero c
  | x :: l=>by
    show M.mul c (M.add x (M.sum l))=M.add (M.mul c x) (M.sum (l.map _))
    rw [M.mul_add,mul_sum c l]
theorem add4 (a b c d:S):M.add (M.add a b) (M.add c d)=M.add (M.add a c) (M.add b d):=by
  rw [M.add_assoc,M.add_assoc,← M.add_assoc b,M.add_comm b c,M.add_assoc c]
theorem sum_add {α:Type} (f g:α→S):∀ l:List α,M.sum (l.map fun x=>M.add (f x) (g x))=M.add (M.sum (l.map f)) (M.sum (l.map g))
  | []=>(M.zero_add _).symm
  | x :: l=>by
    show M.add (M.add (f x) (g x)) (M.sum (l.map _))=M.add (M.add (f x) (M.sum (l.map f))) (M.add (g x) (M.sum (l.map g)))
    rw [sum_add f g l,M.add4]
theorem sum_zero {α:Type}:∀ l:List α,M.sum (l.map fun _=>M.zero)=M.zero
  | []=>rfl
  | _ :: l=>by
    show M.add M.zero (M.sum (l.map _))=_
    rw [sum_zero l,M.zero_add]
theorem sum_swap {α β:Type} (f:α→β→S) (r:List β):∀ l:List α,M.sum (l.map fun x=>M.sum (r.map fun y=>f x y))=M.sum (r.map fun y=>M.sum (l.map fun x=>f x y))
  | []=>(M.sum_zero r).symm
  | x :: l=>by
    show M.add (M.sum (r.map (f x))) (M.sum (l.map _))=M.sum (r.map fun y=>M.add (f x y) (M.sum (l.map fun x=>f x y)))
    rw [sum_swap f r l,M.sum_add]
theorem sum_congr {α:Type} {f g:α→S}:∀ {l:List α},(∀ x∈l,f x=g x)→M.sum (l.map f)=M.sum (l.map g)
  | [],_=>rfl
  | x :: l,h=>by
    show M.add (f x) (M.sum (l.map f))=M.add (g x) (M.sum (l.map g))
    rw [h x List.mem_cons_self,sum_congr fun y hy=>h y (List.mem_cons_of_mem _ hy)]
def when (p:Prop) [Decidable p] (x:S):S:=if p then x else M.zero
theorem when_mul (p:Prop) [Decidable p] (x c:S):M.mul (M.when p x) c=M.when p (M.mul x c):=by
  unfold KSR.when; split
  · rfl
  · exact M.zero_mul c
theorem mul_when (p:Prop) [Decidable p] (x c:S):M.mul c (M.when p x)=M.when p (M.mul c x):=by
  unfold KSR.when; split
  · rfl
  · exact M.mul_zero c
theorem when_when (p q:Prop) [Decidable p] [Decidable q] (x:S):M.when p (M.when q x)=M.when q (M.when p x):=by
  unfold KSR.when; split <;> split <;> rfl
theorem sum_range_one {n i:Nat} (h:i < n) (f:Nat→S):M.sum ((List.range n).map fun k=>M.when (k=i) (f k))=f i:=by
  induction n with
  | zero=>omega
  | succ n ih =>
    rw [List.range_succ,List.map_append,List.map_singleton,M.sum_snoc]
    by_cases e:i=n
    · subst e
      rw [M.sum_congr (g:=fun _=>M.zero) (fun k hk=>by rw [KSR.when,if_neg (by have:=List.mem_range.mp hk; omega)]),M.sum_zero,M.zero_add,KSR.when,if_pos rfl]
    · rw [ih (by omega),KSR.when,if_neg (Ne.symm e),M.add_zero]
end KSR
section
variable {S : Type} (M : KSR S) (es : List (Edge S))
def stepV (f:Nat→S) (t:Nat):S:=M.sum (es.map fun e=>M.when (e.t=t) (M.mul (f e.f) e.c))
def unitV (p:Nat):Nat→S:=fun i=>M.when (i=p) M.one
def stepsV (p:Nat):Nat→Nat→S
  | 0=>unitV M p
  | k + 1=>stepV M es (stepsV p k)
end
end Ws
namespace Ws
open PySem
theorem sm_add2 {kd:Kd} {ok:KdOk kd} (hc:kd≠.chances) {x y:Car kd} {B:Nat} (h1:Sm B (enc kd x)) (h2:Sm B (enc kd y)):Sm (B + 1) (enc kd ((ks kd ok).add x y)):=by
  cases kd with
  | fewest =>
    rcases x with _ | i
    · cases y <;> exact h2.mono (by omega)
    · rcases y with _ | j
      · exact h1.mono (by omega)
      · exact (sm_nat (Nat.min_le_left i j) h1).mono (by omega)
  | widest =>
    by_cases c:x.1≤y.1
    · exact (sm_nat (show max x.1 y.1≤y.1 by omega) h2).mono (by omega)
    · exact (sm_nat (show max x.1 y.1≤x.1 by omega) h1).mono (by omega)
  | counted =>
    rcases x with _ | i
    · exact h1.mono (by omega)
    · rcases y with _ | j
      · exact h2.mono (by omega)
      · refine sm_lt ?_
        have:=lt_sm h1
        have:=lt_sm h2
        rw [Nat.pow_succ]; omega
  | likeliest =>
    show Sm (B + 1) (ofR (rmax x.1 y.1))
    unfold rmax
    split
    · exact h2.mono (by omega)
    · exact h1.mono (by omega)
  | chances=>exact absurd rfl hc
  | musts =>
    rcases x with _ | i
    · cases y <;> exact h2.mono (by omega)
    · rcases y with _ | j
      · exact h1.mono (by omega)
      · exact (sm_nat Nat.and_le_left h1).mono (by omega)
  | rests m =>
    refine (sm_lt ?_).mono (Nat.le_succ B)
    exact Nat.or_lt_two_pow (lt_sm h1) (lt_sm h2)
def Over (D:Nat) (e:Edge Cha) (q:Edge (Option Nat)):Prop:=e.f=q.f∧e.t=q.t∧∃ k:Nat,q.c=some k∧e.c.1 * (D:Rat)=(k:Rat)
theorem over_step {D Dk:Nat} {f:Nat→Cha} {g:Nat→Option Nat} (h:∀ i,∃ N:Nat,g i=some N∧(f i).1 * (Dk:Rat)=(N:Rat)) (t:Nat) :
    ∀ {es:List (Edge Cha)} {ps:List (Edge (Option Nat))},PySem.Paired (Over D) es ps→∃ N:Nat,stepV ksCounted ps g t=some N∧(stepV ksChances es f t).1 * ((Dk * D:Nat):Rat)=(N:Rat)
  | _,_,.nil=>⟨0,rfl,by show (0:Rat) * _=_; rw [Rat.zero_mul]; rfl⟩
  | e :: es,q :: ps,.cons ⟨e1,e2,k,e3,e4⟩ r=>by
    obtain ⟨N,n1,n2⟩:=over_step (D:=D) h t r
    obtain ⟨A,a1,a2⟩:=h e.f
    have hc:∃ B:Nat,ksCounted.when (q.t=t) (ksCounted.mul (g q.f) q.c)=some B∧(ksChances.when (e.t=t) (ksChances.mul (f e.f) e.c)).1 * ((Dk * D:Nat):Rat)=(B:Rat):=by
      rw [← e1,← e2,e3,a1]
      unfold KSR.when
      by_cases c:e.t=t
      · rw [if_pos c,if_pos c]
        refine ⟨A * k,oMul_some A k,?_⟩
        show (f e.f).1 * e.c.1 * _=_
        rw [Rat.natCast_mul,Rat.natCast_mul,← a2,← e4]
        generalize (f e.f).1=u
        generalize e.c.1=v
        generalize (Dk:Rat)=w1
        generalize (D:Rat)=w2
        grind
      · rw [if_neg c,if_neg c]
        exact ⟨0,rfl,by show (0:Rat) * _=_; rw [Rat.zero_mul]; rfl⟩
    obtain ⟨B,b1,b2⟩:=hc
    refine ⟨B + N,?_,?_⟩
    · show ksCounted.add (ksCounted.when (q.t=t) (ksCounted.mul (g q.f) q.c)) (stepV ksCounted ps g t)=_
      rw [b1,n1]; rfl
    · show ((ksChances.when (e.t=t) (ksChances.mul (f e.f) e.c)).1 + (stepV ksChances es f t).1) * _=_
      rw [Rat.natCast_add,← b2,← n2]
      generalize (ksChances.when (e.t=t) (ksChances.mul (f e.f) e.c)).1=u
      generalize (stepV ksChances es f t).1=v
      generalize ((Dk * D:Nat):Rat)=w1
      grind
theorem over_steps {D:Nat} {es:List (Edge Cha)} {ps:List (Edge (Option Nat))} (r:PySem.Paired (Over D) es ps) (p:Nat):∀ k i,∃ N:Nat,stepsV ksCounted ps p k i=some N∧(stepsV ksChances es p k i).1 * ((D ^ k:Nat):Rat)=(N:Rat)
  | 0,i=>by
    show ∃ N:Nat,ksCounted.when (i=p) ksCounted.one=some N∧(ksChances.when (i=p) ksChances.one).1 * _=_
    unfold KSR.when
    by_cases c:i=p
    · rw [if_pos c,if_pos c]; exact ⟨1,rfl,by show (1:Rat) * _=_; rw [Rat.one_mul,Nat.pow_zero]⟩
    · rw [if_neg c,if_neg c]; exact ⟨0,rfl,by show (0:Rat) * _=_; rw [Rat.zero_mul]; rfl⟩
  | k + 1,i=>by
    rw [Nat.pow_succ]
    exact over_step (fun j=>over_steps r p k j) i r
theorem rat_mul_den (p:Rat):p * (p.den:Rat)=(p.num:Rat):=by
  have z:(p.den:Rat)≠0:=by intro z; have:=p.den_nz; exact this (by exact_mod_cast z)
  have e:p=(p.num:Rat) / ((p.den:Int):Rat):=by
    conv=>lhs; rw [← Rat.num_divInt_den p]
    rw [Rat.divInt_eq_div]
  rw [Rat.intCast_natCast] at e
  rw [Rat.div_def] at e
  have:=congrArg (fun x=>x * (p.den:Rat)) e
  refine this.trans ?_
  show (p.num:Rat) * (p.den:Rat)⁻¹ * (p.den:Rat)=p.num
  rw [Rat.mul_assoc,Rat.inv_mul_cancel _ z,Rat.mul_one]
def OverP (D:Nat) (es:List (Edge (Car .chances))) (ps:List (Edge (Car .counted))):Prop:=PySem.Paired (Over D) es ps
theorem OverP.nil (D:Nat):OverP D [] []:=PySem.Paired.nil
theorem OverP.snoc {D:Nat} {es:List (Edge (Car .chances))} {ps:List (Edge (Car .counted))} {e:Edge (Car .chances)} {k:Nat} (h:OverP D es ps) (e4:e.c.1 * (D:Rat)=(k:Rat)):OverP D (es ++ [e]) (ps ++ [⟨e.f,e.t,some k⟩]):=PySem.Paired.snoc h ⟨rfl,rfl,k,rfl,e4⟩
end Ws
namespace Ws
open PySem
theorem sm_step {kd : Kd} {ok : KdOk kd} (hc : kd ≠ .chances) {es : List (Edge (Car kd))} {R B : Nat} (hR : ∀ e ∈ es, Sm R (enc kd e.c)) {f : Nat → Car kd} (hf : ∀ e ∈ es, Sm B (enc kd (f e.f))) (t : Nat) :
    Sm (B + R + 13 + es.length) (enc kd (stepV (ks kd ok) es f t)) := by
  induction es with
  | nil => exact (sm_zero kd ok).mono (by have : 1 ≤ 13 := by decide
                                          omega)
  | cons e es ih =>
    have ih := ih (fun x hx => hR x (List.mem_cons_of_mem _ hx)) (fun x hx => hf x (List.mem_cons_of_mem _ hx))
    have a := sm_mul (ok := ok) (hf e List.mem_cons_self) (hR e List.mem_cons_self)
    show Sm _ (enc kd ((ks kd ok).add ((ks kd ok).when (e.t = t) ((ks kd ok).mul (f e.f) e.c)) (stepV (ks kd ok) es f t)))
    have a2 : Sm (B + R + 13 + es.length) (enc kd ((ks kd ok).when (e.t = t) ((ks kd ok).mul (f e.f) e.c))) := by
      unfold KSR.when
      split
      · exact a.mono (by omega)
      · exact (sm_zero kd ok).mono (by omega)
    exact (sm_add2 hc a2 ih).mono (by rw [List.length_cons]; omega)
theorem sm_steps {kd:Kd} {ok:KdOk kd} (hc:kd≠.chances) {es:List (Edge (Car kd))} {R:Nat} (hR:∀ e∈es,Sm R (enc kd e.c)) (hl:es.length≤64) (p:Nat):∀ k i,Sm (k * (R + 80) + 30) (enc kd (stepsV (ks kd ok) es p k i))
  | 0,i=>by
    show Sm _ (enc kd ((ks kd ok).when (i=p) (ks kd ok).one))
    unfold KSR.when
    split
    · exact (sm_one kd ok).mono (by omega)
    · exact (sm_zero kd ok).mono (by omega)
  | k + 1,i=>(sm_step hc hR (fun e _=>sm_steps hc hR hl p k e.f) i).mono (by rw [Nat.succ_mul]; omega)
structure Fits (kd:Kd) (ok:KdOk kd) (es:List (Edge (Car kd))) (p k B:Nat):Prop where
  at_:∀ i,i≤k→∀ t,Sm B (enc kd (stepsV (ks kd ok) es p i t))
  mul:∀ i,i < k→∀ e∈es,Sm B (enc kd ((ks kd ok).mul (stepsV (ks kd ok) es p i e.f) e.c))
  sum:∀ i,i < k→∀ j t,Sm B (enc kd (stepV (ks kd ok) (es.take j) (stepsV (ks kd ok) es p i) t))
theorem Fits.mono {kd:Kd} {ok:KdOk kd} {es:List (Edge (Car kd))} {p k B C:Nat} (F:Fits kd ok es p k B) (h:B≤C):Fits kd ok es p k C:=⟨fun i hi t=>(F.at_ i hi t).mono h,fun i hi e he=>(F.mul i hi e he).mono h,fun i hi j t=>(F.sum i hi j t).mono h⟩
theorem fits_plain {kd:Kd} {ok:KdOk kd} (hc:kd≠.chances) {es:List (Edge (Car kd))} {R:Nat} (hR:∀ e∈es,Sm R (enc kd e.c)) (hl:es.length≤64) (p k:Nat):Fits kd ok es p k (k * (R + 80) + 30 + R):=by
  have mono:∀ i,i≤k→i * (R + 80)≤k * (R + 80):=fun i hi=>Nat.mul_le_mul_right _ hi
  refine ⟨fun i hi t=>(sm_steps hc hR hl p i t).mono (by have:=mono i hi; omega),fun i hi e he=>?_,fun i hi j t=>?_⟩
  · refine (sm_mul (sm_steps hc hR hl p i e.f) (hR e he)).mono ?_
    have:=mono (i + 1) hi
    rw [Nat.succ_mul] at this; omega
  · refine (sm_step hc (es:=es.take j) (fun e he=>hR e (List.mem_of_mem_take he)) (fun e _=>sm_steps hc hR hl p i e.f) t).mono ?_
    have:=mono (i + 1) hi
    have l2:(es.take j).length≤64:=by rw [List.length_take]; omega
    rw [Nat.succ_mul] at this; omega
theorem overP_of {L:Nat}:∀ {es:List (Edge (Car .chances))},(∀ e∈es,∃ k:Nat,toR (enc .chances e.c) * (L:Rat)=(k:Rat))→∃ ps:List (Edge (Car .counted)),PySem.Paired (Over L) es ps∧∀ q∈ps,∃ e∈es,∃ k:Nat,q.c=(some k:Option Nat)∧e.c.1 * (L:Rat)=(k:Rat)
  | [],_=>⟨[],.nil,fun q hq=>nomatch hq⟩
  | e :: es,h=>by
    obtain ⟨ps,hp,hq⟩:=overP_of fun x hx=>h x (List.mem_cons_of_mem _ hx)
    obtain ⟨k,ek⟩:=h e List.mem_cons_self
    have ek:e.c.1 * (L:Rat)=(k:Rat):=by
      have:toR (enc .chances e.c)=e.c.1:=toR_ofR _
      rw [this] at ek; exact ek
    refine ⟨⟨e.f,e.t,(some k:Option Nat)⟩ :: ps,.cons ⟨rfl,rfl,k,rfl,ek⟩ hp,fun q hq'=>?_⟩
    rcases List.mem_cons.mp hq' with rfl | hq'
    · exact ⟨e,List.mem_cons_self,k,rfl,ek⟩
    · obtain ⟨e',he',r⟩:=hq q hq'
      exact ⟨e',List.mem_cons_of_mem _ he',r⟩
theorem nat_of_mul {q:Rat} {L k B C:Nat} (h:q * (L:Rat)=(k:Rat)) (hq:Sm B (ofR q)) (hL:L < 2 ^ C) (h0:0≤q):k < 2 ^ (B + C):=by
  have n0:0≤q.num:=Rat.num_nonneg.mpr h0
  have hb:q.num.natAbs < 2 ^ B:=intBits_le_iff.mp hq.1
  have e:(k:Rat) * (q.den:Rat)=((q.num.toNat * L:Nat):Rat):=by
    rw [Rat.natCast_mul,show ((q.num.toNat:Nat):Rat)=((q.num:Int):Rat) by rw [← Rat.intCast_natCast,Int.toNat_of_nonneg n0],← rat_mul_den q,← h]
    generalize (q.den:Rat)=x
    generalize (L:Rat)=y
    grind
  have e:k * q.den=q.num.toNat * L:=by
    rw [← Rat.natCast_mul] at e
    exact_mod_cast e
  have d:=den_pos q
  have:k≤k * q.den:=Nat.le_mul_of_pos_right _ (by omega)
  calc k≤q.num.toNat * L:=by omega
    _ < 2 ^ B * 2 ^ C:=Nat.mul_lt_mul'' (by omega) hL
    _=2 ^ (B + C):=by rw [← Nat.pow_add]
theorem paired_take' {α β:Type} {F:α→β→Prop}:∀ {xs:List α} {ys:List β} (k:Nat),PySem.Paired F xs ys→PySem.Paired F (xs.take k) (ys.take k)
  | _,_,0,_=>by rw [List.take_zero,List.take_zero]; exact .nil
  | [],[],_ + 1,.nil=>.nil
  | _ :: _,_ :: _,k + 1,.cons h t=>.cons h (paired_take' k t)
theorem sm_frac {q:Rat} {L N i B:Nat} (L0:0 < L) (L1:L < 2 ^ 192) (h:q * ((L ^ i:Nat):Rat)=(N:Rat)) (hN:Sm B (.int (N:Int))):Sm (B + 192 * i + 1) (ofR q):=by
  have b:=lt_sm hN
  refine sm_of_mul (k:=N) (D:=L ^ i) (Nat.pow_pos L0) h (Nat.lt_of_lt_of_le b (Nat.pow_le_pow_right (by decide) (by omega))) ?_
  have p1:L ^ i≤(2 ^ 192) ^ i:=Nat.pow_le_pow_left (Nat.le_of_lt L1) i
  rw [← Nat.pow_mul] at p1
  have:2 ^ (192 * i) < 2 ^ (B + 192 * i + 1):=Nat.pow_lt_pow_right (by decide) (by omega)
  omega
theorem fits_chances {es:List (Edge (Car .chances))} {n:Nat} (G:Graph .chances n es) (hl:es.length≤64) (p k:Nat):Fits .chances trivial es p k (k * 664 + 900):=by
  obtain ⟨L,L0,L1,hL⟩:=G.den rfl
  obtain ⟨ps,hov,hps⟩:=overP_of hL
  have pl:ps.length≤64:=Nat.le_trans (Nat.le_of_eq hov.length.symm) hl
  have hR:∀ q∈ps,Sm 392 (enc .counted q.c):=fun q hq=>by
    obtain ⟨e,he,j,e1,e2⟩:=hps q hq
    rw [e1]
    exact sm_lt (nat_of_mul (B:=200) (C:=192) e2 (G.sm e he) L1 e.c.2)
  have F:=fits_plain (kd:=.counted) (ok:=trivial) (by intro z; cases z) hR pl p k
  have st:∀ i t,∃ N:Nat,stepsV ksCounted ps p i t=some N∧(stepsV ksChances es p i t).1 * ((L ^ i:Nat):Rat)=(N:Rat):=over_steps hov p
  have b1:∀ i,i≤k→192 * i≤192 * k:=fun i hi=>Nat.mul_le_mul_left _ hi
  refine ⟨fun i hi t=>?_,fun i hi e he=>?_,fun i hi j t=>?_⟩
  · obtain ⟨N,n1,n2⟩:=st i t
    have a:=F.at_ i hi t
    have e:stepsV (ks .counted trivial) ps p i t=(some N:Option Nat):=n1
    rw [e] at a
    exact (sm_frac L0 L1 n2 a).mono (by have:=b1 i hi; omega)
  · obtain ⟨N,n1,n2⟩:=st i e.f
    have a:=F.at_ i (by omega) e.f
    have e':stepsV (ks .counted trivial) ps p i e.f=(some N:Option Nat):=n1
    rw [e'] at a
    have:=sm_mulR (sm_frac L0 L1 n2 a) (G.sm e he)
    exact Sm.mono (by have:=b1 i (by omega); omega) this
  · obtain ⟨N,n1,n2⟩:=over_step (D:=L) (Dk:=L ^ i) (fun b=>st i b) t (paired_take' j hov)
    have a:=F.sum i hi j t
    have e:stepV (ks .counted trivial) (ps.take j) (stepsV (ks .counted trivial) ps p i) t=(some N:Option Nat):=n1
    rw [e] at a
    rw [← Nat.pow_succ] at n2
    exact (sm_frac L0 L1 n2 a).mono (by have:=b1 (i + 1) hi; omega)
theorem Graph.fits {kd:Kd} {ok:KdOk kd} {n:Nat} {es:List (Edge (Car kd))} (G:Graph kd n es) (hl:es.length≤64) (p:Nat) {k:Nat} (hk:k≤60):Fits kd ok es p k 50000:=by
  by_cases hc:kd=.chances
  · subst hc
    exact (fits_chances G hl p k).mono (by omega)
  · exact (fits_plain hc G.sm hl p k).mono (by omega)
end Ws
namespace Ws
open PySem
section
variable {S : Type} (M : KSR S)
abbrev Mat (S:Type):=Nat→Nat→S
def ledA (A:Mat S) (k:Nat) (r:S):Mat S:=fun i j=>M.add (A i j) (M.mul (M.mul (A i k) r) (A k j))
def stageA (A0:Mat S):Nat→Option (Mat S)
  | 0=>some A0
  | k + 1=>(stageA A0 k).bind fun A=>(M.star (A k k)).map fun r=>ledA M A k r
def tabA (A:Mat S):Mat S:=fun i j=>if i=j then M.add M.one (A i j) else A i j
theorem tabA_eq (A:Mat S) (i j:Nat):tabA M A i j=M.add (M.when (i=j) M.one) (A i j):=by
  unfold tabA KSR.when
  split
  · rfl
  · rw [M.zero_add]
abbrev KSR.to (k:Nat) (f:Nat→S):S:=M.sum ((List.range k).map f)
theorem to_succ (k:Nat) (f:Nat→S):M.to (k + 1) f=M.add (M.to k f) (f k):=by
  unfold KSR.to
  rw [List.range_succ,List.map_append,List.map_singleton,M.sum_snoc]
theorem to_add (k:Nat) (f g:Nat→S):M.to k (fun l=>M.add (f l) (g l))=M.add (M.to k f) (M.to k g):=M.sum_add f g _
theorem to_mul (k:Nat) (f:Nat→S) (c:S):M.mul (M.to k f) c=M.to k fun l=>M.mul (f l) c:=by
  unfold KSR.to; rw [M.sum_mul,List.map_map]; rfl
theorem mul_to (k:Nat) (f:Nat→S) (c:S):M.mul c (M.to k f)=M.to k fun l=>M.mul c (f l):=by
  unfold KSR.to; rw [M.mul_sum,List.map_map]; rfl
structure Rec (A0:Mat S) (k:Nat) (A:Mat S):Prop where
  fw:∀ i j,A i j=M.add (A0 i j) (M.to k fun l=>M.mul (A0 i l) (A l j))
  bw:∀ i j,A i j=M.add (A0 i j) (M.to k fun l=>M.mul (A i l) (A0 l j))
theorem Rec.led {A0 A:Mat S} {k:Nat} {r:S} (R:Rec M A0 k A) (hr:M.star (A k k)=some r):Rec M A0 (k + 1) (ledA M A k r):=by
  have sr:r=M.add M.one (M.mul (A k k) r):=M.star_eq _ _ hr
  refine ⟨fun i j=>?_,fun i j=>?_⟩
  · rw [to_succ]
    have e1:(M.to k fun l=>M.mul (A0 i l) (ledA M A k r l j))=M.add (M.to k fun l=>M.mul (A0 i l) (A l j)) (M.mul (M.mul (M.to k fun l=>M.mul (A0 i l) (A l k)) r) (A k j)):=by
      rw [to_mul,to_mul,← to_add]
      refine M.sum_congr fun l _=>?_
      show M.mul (A0 i l) (M.add (A l j) (M.mul (M.mul (A l k) r) (A k j)))=_
      rw [M.mul_add,← M.mul_assoc,← M.mul_assoc]
    have e2:ledA M A k r k j=M.mul r (A k j):=by
      show M.add (A k j) (M.mul (M.mul (A k k) r) (A k j))=_
      conv=>rhs; rw [sr,M.add_mul,M.one_mul]
    rw [e1,e2]
    show M.add (A i j) (M.mul (M.mul (A i k) r) (A k j))=_
    have f1:=R.fw i j
    have f2:=R.fw i k
    generalize (M.to k fun l=>M.mul (A0 i l) (A l j))=X at f1
    generalize (M.to k fun l=>M.mul (A0 i l) (A l k))=Y at f2
    rw [f1,f2,M.add_mul,M.add_mul,← M.mul_assoc]
    rw [M.add_assoc,M.add_assoc]
    congr 1
    rw [M.add_comm (M.mul (M.mul (A0 i k) r) (A k j))]
  · rw [to_succ]
    have e1:(M.to k fun l=>M.mul (ledA M A k r i l) (A0 l j))=M.add (M.to k fun l=>M.mul (A i l) (A0 l j)) (M.mul (M.mul (A i k) r) (M.to k fun l=>M.mul (A k l) (A0 l j))):=by
      rw [mul_to,← to_add]
      refine M.sum_congr fun l _=>?_
      show M.mul (M.add (A i l) (M.mul (M.mul (A i k) r) (A k l))) (A0 l j)=_
      rw [M.add_mul,M.mul_assoc (M.mul (A i k) r)]
    have e2:ledA M A k r i k=M.mul (A i k) r:=by
      show M.add (A i k) (M.mul (M.mul (A i k) r) (A k k))=_
      conv=>rhs; rw [sr,M.mul_add,M.mul_one]
      rw [M.mul_assoc,M.mul_comm r]
    rw [e1,e2]
    show M.add (A i j) (M.mul (M.mul (A i k) r) (A k j))=_
    have f1:=R.bw i j
    have f2:=R.bw k j
    generalize (M.to k fun l=>M.mul (A i l) (A0 l j))=X at f1
    generalize (M.to k fun l=>M.mul (A k l) (A0 l j))=Y at f2
    rw [f1,f2,M.mul_add]
    rw [M.add_assoc,M.add_assoc]
    congr 2
    exact M.add_comm _ _
theorem stage_rec {A0:Mat S}:∀ {k:Nat} {A:Mat S},stageA M A0 k=some A→Rec M A0 k A
  | 0,A,h=>by
    cases h
    exact ⟨fun i j=>(M.add_zero _).symm,fun i j=>(M.add_zero _).symm⟩
  | k + 1,A,h=>by
    unfold stageA at h
    cases e:stageA M A0 k with
    | none=>rw [e] at h; cases h
    | some B =>
      rw [e] at h
      cases e2:M.star (B k k) with
      | none =>
        have h:(M.star (B k k)).map (fun r=>ledA M B k r)=some A:=h
        rw [e2] at h; cases h
      | some r =>
        have h:(M.star (B k k)).map (fun r=>ledA M B k r)=some A:=h
        rw [e2] at h
        cases h
        exact (stage_rec e).led M e2
theorem tab_bw {A0 A:Mat S} {n:Nat} (h:stageA M A0 n=some A) {i j:Nat} (hi:i < n):tabA M A i j=M.add (M.when (i=j) M.one) (M.to n fun l=>M.mul (tabA M A i l) (A0 l j)):=by
  have R:=stage_rec M h
  rw [tabA_eq]
  congr 1
  have e:(M.to n fun l=>M.mul (tabA M A i l) (A0 l j))=M.add (M.to n fun l=>M.when (l=i) (A0 l j)) (M.to n fun l=>M.mul (A i l) (A0 l j)):=by
    rw [← to_add]
    refine M.sum_congr fun l _=>?_
    rw [tabA_eq,M.add_mul,M.when_mul,M.one_mul]
    congr 1
    unfold KSR.when
    by_cases c:i=l
    · rw [if_pos c,if_pos c.symm]
    · rw [if_neg c,if_neg (Ne.symm c)]
  rw [e,KSR.to,M.sum_range_one hi]
  exact R.bw i j
def edgeM (es:List (Edge S)):Mat S:=fun i j=>stepsV M es i 1 j
theorem edgeM_eq (es:List (Edge S)) (i j:Nat):edgeM M es i j=M.sum (es.map fun e=>M.when (e.f=i) (M.when (e.t=j) e.c)):=by
  show stepV M es (unitV M i) j=_
  unfold stepV unitV
  refine M.sum_congr fun e _=>?_
  rw [M.when_mul,M.one_mul,M.when_when]
theorem bw_edges (es:List (Edge S)) {n:Nat} (he:∀ e∈es,e.f < n) (j:Nat) (f:Nat→S):(M.to n fun l=>M.mul (f l) (edgeM M es l j))=M.sum (es.map fun e=>M.when (e.t=j) (M.mul (f e.f) e.c)):=by
  have e1:∀ l,M.mul (f l) (edgeM M es l j)=M.sum (es.map fun e=>M.when (l=e.f) (M.when (e.t=j) (M.mul (f l) e.c))):=fun l=>by
    rw [edgeM_eq,M.mul_sum,List.map_map]
    refine M.sum_congr fun e _=>?_
    show M.mul (f l) (M.when (e.f=l) (M.when (e.t=j) e.c))=_
    rw [M.mul_when,M.mul_when]
    unfold KSR.when
    by_cases c:e.f=l
    · rw [if_pos c,if_pos c.symm]
    · rw [if_neg c,if_neg (Ne.symm c)]
  unfold KSR.to
  rw [M.sum_congr fun l _=>e1 l,M.sum_swap]
  refine M.sum_congr fun e hm=>?_
  exact M.sum_range_one (he e hm) (fun l=>M.when (e.t=j) (M.mul (f l) e.c))
end
end Ws
namespace Ws
theorem stage_none {S : Type} (M : KSR S) {A0 : Mat S} : ∀ {n k : Nat}, k ≤ n → stageA M A0 k = none → stageA M A0 n = none
  | 0, k, h, e => by obtain rfl : k = 0 := by omega
                     exact e
  | n + 1, k, h, e => by
    by_cases c : k = n + 1
    · subst c; exact e
    · have := stage_none M (show k ≤ n by omega) e
      unfold stageA; rw [this]; rfl
theorem stage_succ {S:Type} (M:KSR S) {A0 A:Mat S} {k:Nat} {r:S} (h:stageA M A0 k=some A) (hr:M.star (A k k)=some r):stageA M A0 (k + 1)=some (ledA M A k r):=by
  unfold stageA
  rw [h]
  show (M.star (A k k)).map _=_
  rw [hr]; rfl
theorem stage_fail {S:Type} (M:KSR S) {A0 A:Mat S} {k:Nat} (h:stageA M A0 k=some A) (hr:M.star (A k k)=none):stageA M A0 (k + 1)=none:=by
  unfold stageA
  rw [h]
  show (M.star (A k k)).map _=_
  rw [hr]; rfl
end Ws
namespace Ws
open PySem
structure Frac (b:Nat) (A:Mat Cha):Prop where
  ex:∃ d:Nat→Nat,∀ i,0 < d i∧d i < 2 ^ b∧∀ j,∃ a:Nat,a < 2 ^ b∧(A i j).1 * (d i:Rat)=(a:Rat)
theorem Frac.sm {b:Nat} {A:Mat Cha} (F:Frac b A) (i j:Nat):Sm b (ofR (A i j).1):=by
  obtain ⟨d,h⟩:=F.ex
  obtain ⟨d0,d1,h⟩:=h i
  obtain ⟨a,a1,e⟩:=h j
  exact sm_of_mul d0 e a1 d1
theorem Frac.led {b k:Nat} {A:Mat Cha} {r:Cha} (F:Frac b A) (hr:ksChances.star (A k k)=some r):Frac (2 * b + 1) (ledA ksChances A k r):=by
  obtain ⟨d,hd⟩:=F.ex
  have lt:(A k k).1 < 1:=by
    by_cases c:(A k k).1 < 1
    · exact c
    · rw [chances_ge _ c] at hr; cases hr
  rw [chances_lt _ lt] at hr
  have er:r.1=(1 - (A k k).1)⁻¹:=by cases hr; rfl
  obtain ⟨k0,k1,hk⟩:=hd k
  obtain ⟨akk,akk1,ekk⟩:=hk k
  have dk0:(0:Rat) < (d k:Rat):=by exact_mod_cast k0
  have akd:akk < d k:=by
    have:(akk:Rat) < (d k:Rat):=by
      rw [← ekk]
      have:=Rat.mul_lt_mul_of_pos_right lt dk0
      rw [Rat.one_mul] at this; exact this
    exact_mod_cast this
  have pw:(2:Nat) ^ (2 * b + 1)=2 ^ b * 2 ^ b * 2:=by rw [Nat.pow_succ,Nat.two_mul,Nat.pow_add]
  have hr2:r.1 * ((d k - akk:Nat):Rat)=(d k:Rat):=by
    rw [er]
    have e1:((d k - akk:Nat):Rat)=(1 - (A k k).1) * (d k:Rat):=by
      have:((d k - akk:Nat):Rat) + (akk:Rat)=(d k:Rat):=by
        rw [← Rat.natCast_add,Nat.sub_add_cancel (Nat.le_of_lt akd)]
      rw [← ekk] at this
      grind
    rw [e1,← Rat.mul_assoc,Rat.inv_mul_cancel _ (by grind),Rat.one_mul]
  refine ⟨fun i=>d i * (d k - akk),fun i=>⟨Nat.mul_pos (hd i).1 (by omega),?_,fun j=>?_⟩⟩
  · rw [pw]
    have:d i * (d k - akk) < 2 ^ b * 2 ^ b:=Nat.mul_lt_mul'' (hd i).2.1 (by omega)
    show d i * (d k - akk) < _
    omega
  · obtain ⟨aij,aij1,eij⟩:=(hd i).2.2 j
    obtain ⟨aik,aik1,eik⟩:=(hd i).2.2 k
    obtain ⟨akj,akj1,ekj⟩:=hk j
    refine ⟨aij * (d k - akk) + aik * akj,?_,?_⟩
    · rw [pw]
      have a1:aij * (d k - akk) < 2 ^ b * 2 ^ b:=Nat.mul_lt_mul'' aij1 (by omega)
      have a2:aik * akj < 2 ^ b * 2 ^ b:=Nat.mul_lt_mul'' aik1 akj1
      omega
    · show ((A i j).1 + (A i k).1 * r.1 * (A k j).1) * _=_
      rw [Rat.natCast_add,Rat.natCast_mul,Rat.natCast_mul,Rat.natCast_mul,← eij,← eik,← ekj]
      generalize ((d k - akk:Nat):Rat)=x at hr2
      have e2:(A i k).1 * r.1 * (A k j).1 * ((d i:Rat) * x)=(A i k).1 * (d i:Rat) * ((A k j).1 * (r.1 * x)):=by grind
      rw [hr2] at e2
      rw [Rat.add_mul,e2]
      generalize (A i j).1=u
      generalize (d i:Rat)=v
      rw [← Rat.mul_assoc]
def bC:Nat→Nat
  | 0=>200
  | k + 1=>2 * bC k + 1
def bP:Nat→Nat
  | 0=>520
  | k + 1=>3 * bP k + 120
theorem bC_le:∀ {k:Nat},k≤8→bC k≤60000:=by decide
theorem bP_le:∀ {k:Nat},k≤7→bP k≤2000000:=by decide
theorem stage_frac {A0:Mat Cha} (h0:Frac 200 A0):∀ {k:Nat} {A:Mat Cha},stageA ksChances A0 k=some A→Frac (bC k) A
  | 0,A,h=>by cases h; exact h0
  | k + 1,A,h=>by
    unfold stageA at h
    cases e:stageA ksChances A0 k with
    | none=>rw [e] at h; cases h
    | some B =>
      rw [e] at h
      have h:(ksChances.star (B k k)).map (fun r=>ledA ksChances B k r)=some A:=h
      cases e2:ksChances.star (B k k) with
      | none=>rw [e2] at h; cases h
      | some r =>
        rw [e2] at h
        cases h
        exact (stage_frac h0 e).led e2
theorem stage_plain {kd:Kd} {ok:KdOk kd} (hc:kd≠.chances) {A0:Mat (Car kd)} (h0:∀ i j,Sm 520 (enc kd (A0 i j))):∀ {k:Nat} {A:Mat (Car kd)},stageA (ks kd ok) A0 k=some A→∀ i j,Sm (bP k) (enc kd (A i j))
  | 0,A,h=>by cases h; exact h0
  | k + 1,A,h=>by
    unfold stageA at h
    cases e:stageA (ks kd ok) A0 k with
    | none=>rw [e] at h; cases h
    | some B =>
      rw [e] at h
      have h:((ks kd ok).star (B k k)).map (fun r=>ledA (ks kd ok) B k r)=some A:=h
      cases e2:(ks kd ok).star (B k k) with
      | none=>rw [e2] at h; cases h
      | some r =>
        rw [e2] at h
        cases h
        intro i j
        have hB:=stage_plain hc h0 e
        have hr:=sm_star (hB k k) e2
        have hm:=sm_mul (ok:=ok) (sm_mul (ok:=ok) (hB i k) hr) (hB k j)
        exact (sm_add2 (ok:=ok) hc ((hB i j).mono (show bP k≤3 * bP k + 54 by omega)) (hm.mono (by omega))).mono (by show _≤3 * bP k + 120; omega)
def TFits (kd:Kd) (ok:KdOk kd) (es:List (Edge (Car kd))) (n:Nat):Prop:=∀ k,k≤n→∀ A,stageA (ks kd ok) (edgeM (ks kd ok) es) k=some A→∀ i j,Sm (if kd=.chances then 60000 else 2000000) (enc kd (A i j))
theorem TFits.sm {kd:Kd} {ok:KdOk kd} {es:List (Edge (Car kd))} {n:Nat} (F:TFits kd ok es n) {k:Nat} (hk:k≤n) {A:Mat (Car kd)} (h:stageA (ks kd ok) (edgeM (ks kd ok) es) k=some A) (i j:Nat):Sm 2000000 (enc kd (A i j)) :=
  (F k hk A h i j).mono (by split <;> decide)
theorem sub_edge {es:List (Edge (Car .chances))} (p:Nat):shSum (frm (p:Int) (es.map (Edge.road .chances)))=((es.filter fun e=>decide (e.f=p)).map fun e=>e.c.1).sum:=by
  unfold shSum frm
  rw [List.filter_eq_self.mpr (fun w hw=>by
    obtain ⟨r,hr,rfl⟩:=List.mem_map.mp hw
    obtain ⟨e,_,rfl⟩:=List.mem_map.mp (List.mem_filter.mp hr).1
    exact ofR_share e.c.1)]
  rw [List.filter_map,List.map_map,List.map_map]
  have e1:(fun r:Road=>decide (r.f=(p:Int))) ∘ Edge.road .chances=fun e:Edge (Car .chances)=>decide (e.f=p):=by
    funext e
    show decide (((e.f:Nat):Int)=(p:Int))=_
    exact decide_eq_decide.mpr ⟨fun h=>by omega,fun h=>by omega⟩
  rw [e1]
  congr 1
  refine List.map_congr_left fun e _=>?_
  exact toR_ofR e.c.1
theorem sum_cha:∀ (l:List (Edge (Car .chances))) (g:Edge (Car .chances)→Cha),(ksChances.sum (l.map g)).1=(l.map fun e=>(g e).1).sum
  | [],_=>rfl
  | e :: l,g=>by
    show (g e).1 + (ksChances.sum (l.map g)).1=_
    rw [sum_cha l g,List.map_cons,List.sum_cons]
theorem when_le (p:Prop) [Decidable p] (x:Cha):(ksChances.when p x).1≤x.1:=by
  unfold KSR.when
  by_cases c:p
  · rw [if_pos c]; exact Rat.le_refl
  · rw [if_neg c]; exact x.2
theorem when_no {p:Prop} [Decidable p] (h:¬ p) (x:Cha):(ksChances.when p x).1=0:=by
  unfold KSR.when
  rw [if_neg h]; rfl
theorem sum_le_filter (p t:Nat):∀ l:List (Edge (Car .chances)),(l.map fun e=>(ksChances.when (e.f=p) (ksChances.when (e.t=t) e.c)).1).sum≤((l.filter fun e=>decide (e.f=p)).map fun e=>e.c.1).sum
  | []=>Rat.le_refl
  | e :: l=>by
    have ih:=sum_le_filter p t l
    have c0:(0:Rat)≤e.c.1:=e.c.2
    rw [List.map_cons,List.sum_cons]
    by_cases h:e.f=p
    · rw [List.filter_cons_of_pos (by simpa using h),List.map_cons,List.sum_cons]
      have:(ksChances.when (e.f=p) (ksChances.when (e.t=t) e.c)).1≤e.c.1:=Rat.le_trans (when_le _ _) (when_le _ _)
      grind
    · rw [List.filter_cons_of_neg (by simpa using h)]
      have:(ksChances.when (e.f=p) (ksChances.when (e.t=t) e.c)).1=0:=when_no h _
      grind
theorem frac_edges {es:List (Edge (Car .chances))} {n:Nat} (G:Graph .chances n es):Frac 200 (edgeM ksChances es):=by
  obtain ⟨L,L0,L1,hL⟩:=G.den rfl
  obtain ⟨ps,hov,hps⟩:=overP_of hL
  have p200:(2:Nat) ^ 192≤2 ^ 200:=Nat.pow_le_pow_right (by decide) (by decide)
  refine ⟨fun _=>L,fun i=>⟨L0,by show L < _; omega,fun j=>?_⟩⟩
  obtain ⟨N,n1,n2⟩:=over_steps hov i 1 j
  rw [Nat.pow_one] at n2
  refine ⟨N,?_,n2⟩
  have le1:(edgeM ksChances es i j).1≤1:=by
    have e2:(edgeM ksChances es i j).1=(es.map fun e=>(ksChances.when (e.f=i) (ksChances.when (e.t=j) e.c)).1).sum:=(congrArg Subtype.val (edgeM_eq ksChances es i j)).trans (sum_cha es _)
    have a1:=sum_le_filter i j es
    have a2:=G.sub rfl i
    rw [sub_edge] at a2
    exact Eq.subst (motive:=fun z=>z≤1) e2.symm (Rat.le_trans a1 a2)
  have:(N:Rat)≤(L:Rat):=by
    rw [← n2]
    have L0':(0:Rat)≤(L:Rat):=by exact_mod_cast Nat.zero_le L
    have:=Rat.mul_le_mul_of_nonneg_right le1 L0'
    rw [Rat.one_mul] at this; exact this
  have:N≤L:=by exact_mod_cast this
  omega
theorem Graph.tfits {kd:Kd} {ok:KdOk kd} {n:Nat} {es:List (Edge (Car kd))} (G:Graph kd n es) (hl:es.length≤64) (h7:n≤7):TFits kd ok es n:=by
  intro k hk A h i j
  by_cases hc:kd=.chances
  · subst hc
    rw [if_pos rfl]
    exact ((stage_frac (frac_edges G) h).sm i j).mono (bC_le (by omega))
  · rw [if_neg hc]
    have h0:∀ i j,Sm 520 (enc kd (edgeM (ks kd ok) es i j)):=fun i j=>((fits_plain (ok:=ok) hc G.sm hl i 1).at_ 1 (Nat.le_refl _) j).mono (by decide)
    exact (stage_plain hc h0 h i j).mono (bP_le (by omega))
end Ws
namespace Ws
open PySem
section
variable {S : Type} (M : KSR S)
theorem le_refl (a:S):M.le a a:=⟨M.zero,M.add_zero a⟩
theorem le_trans {a b c:S} (h:M.le a b) (h':M.le b c):M.le a c:=by
  obtain ⟨d,rfl⟩:=h
  obtain ⟨e,rfl⟩:=h'
  exact ⟨M.add d e,(M.add_assoc _ _ _).symm⟩
theorem le_of_eq {a b:S} (h:a=b):M.le a b:=h ▸ le_refl M a
theorem zero_le (a:S):M.le M.zero a:=⟨a,M.zero_add a⟩
theorem le_add (a b:S):M.le a (M.add a b):=⟨b,rfl⟩
theorem le_add' (a b:S):M.le b (M.add a b):=⟨a,M.add_comm b a⟩
theorem add_le {a b c d:S} (h:M.le a b) (h':M.le c d):M.le (M.add a c) (M.add b d):=by
  obtain ⟨x,rfl⟩:=h
  obtain ⟨y,rfl⟩:=h'
  exact ⟨M.add x y,M.add4 a c x y⟩
theorem mul_le {a b c d:S} (h:M.le a b) (h':M.le c d):M.le (M.mul a c) (M.mul b d):=by
  obtain ⟨x,rfl⟩:=h
  obtain ⟨y,rfl⟩:=h'
  refine ⟨M.add (M.mul a y) (M.mul x (M.add c y)),?_⟩
  rw [M.add_mul,M.mul_add a,M.add_assoc]
theorem sum_le {α:Type} {f g:α→S}:∀ {l:List α},(∀ x∈l,M.le (f x) (g x))→M.le (M.sum (l.map f)) (M.sum (l.map g))
  | [],_=>le_refl M _
  | x :: l,h=>add_le M (h x List.mem_cons_self) (sum_le fun y hy=>h y (List.mem_cons_of_mem _ hy))
theorem to_congr {n:Nat} {f g:Nat→S} (h:∀ l,l < n→f l=g l):M.to n f=M.to n g:=M.sum_congr fun l hl=>h l (List.mem_range.mp hl)
theorem to_split {n k:Nat} (hk:k < n) (f:Nat→S):M.to n f=M.add (f k) (M.to n fun l=>if l=k then M.zero else f l):=by
  have e:∀ l,f l=M.add (M.when (l=k) (f l)) (if l=k then M.zero else f l):=fun l=>by
    unfold KSR.when
    split
    · rw [M.add_zero]
    · rw [M.zero_add]
  rw [to_congr M (fun l _=>e l),to_add]
  congr 1
  exact M.sum_range_one hk f
theorem least_step {A:Mat S} {k n:Nat} {r:S} (hk:k < n) (hr:M.star (A k k)=some r) {x b y:Nat→S} (hy:y k=x k) (h:∀ i,i < n→M.le (M.add (b i) (M.to n fun l=>M.mul (A i l) (y l))) (x i)) :
    ∀ i,i < n→M.le (M.add (b i) (M.to n fun l=>M.mul (ledA M A k r i l) (if l=k then b k else y l))) (x i):=by
  have sr:r=M.add M.one (M.mul (A k k) r):=M.star_eq _ _ hr
  have hR:∀ i,M.to n (fun l=>M.mul (A i l) (y l))=M.add (M.mul (A i k) (x k)) (M.to n fun l=>if l=k then M.zero else M.mul (A i l) (y l)):=fun i=>by rw [to_split M hk,hy]
  generalize hRd:(fun i=>M.to n fun l=>if l=k then M.zero else M.mul (A i l) (y l))=R
  have hR:∀ i,M.to n (fun l=>M.mul (A i l) (y l))=M.add (M.mul (A i k) (x k)) (R i):=fun i=>by rw [hR i,← hRd]
  have hxk:M.le (M.mul r (M.add (b k) (R k))) (x k):=by
    obtain ⟨c,e⟩:=h k hk
    rw [hR k] at e
    refine M.star_ind (A k k) r _ (x k) c hr ?_
    rw [← e]
    congr 1
    rw [M.add_assoc,M.add_comm (R k),e]
  intro i hi
  have e2:M.add (b i) (M.to n fun l=>M.mul (ledA M A k r i l) (if l=k then b k else y l))=M.add (b i) (M.add (M.mul (A i k) (M.mul r (M.add (b k) (R k)))) (R i)):=by
    congr 1
    rw [to_split M hk,if_pos rfl]
    have e3:M.mul (ledA M A k r i k) (b k)=M.mul (A i k) (M.mul r (b k)):=by
      unfold ledA
      have:M.add (A i k) (M.mul (M.mul (A i k) r) (A k k))=M.mul (A i k) r:=by
        rw [M.mul_assoc,M.mul_comm r]
        conv=>rhs; rw [sr]
        rw [M.mul_add,M.mul_one]
      rw [this,M.mul_assoc]
    have e4:(M.to n fun l=>if l=k then M.zero else M.mul (ledA M A k r i l) (if l=k then b k else y l))=M.add (R i) (M.mul (A i k) (M.mul r (R k))):=by
      rw [← hRd]
      dsimp only
      rw [mul_to,mul_to,← to_add]
      refine to_congr M fun l _=>?_
      by_cases c:l=k
      · rw [if_pos c,if_pos c,if_pos c,M.mul_zero,M.mul_zero,M.add_zero]
      · rw [if_neg c,if_neg c,if_neg c,if_neg c]
        unfold ledA
        rw [M.add_mul,M.mul_assoc,M.mul_assoc]
    rw [e3,e4,M.mul_add r,M.mul_add,M.add_comm (R i),M.add_assoc]
  rw [e2]
  refine le_trans M ?_ (h i hi)
  rw [hR i]
  exact add_le M (le_refl M _) (add_le M (mul_le M (le_refl M _) hxk) (le_refl M _))
theorem least_stage {A0:Mat S} {n:Nat} {x b:Nat→S} (h:∀ i,i < n→M.le (M.add (b i) (M.to n fun l=>M.mul (A0 i l) (x l))) (x i)) :
    ∀ {k:Nat} {A:Mat S},k≤n→stageA M A0 k=some A→∀ i,i < n→M.le (M.add (b i) (M.to n fun l=>M.mul (A i l) (if l < k then b l else x l))) (x i)
  | 0,A,_,e=>by
    obtain rfl:A0=A:=Option.some.inj e
    intro i hi
    rw [to_congr M (g:=fun l=>M.mul (A0 i l) (x l)) fun l _=>by rw [if_neg (Nat.not_lt_zero l)]]
    exact h i hi
  | k + 1,A,hk,e=>by
    unfold stageA at e
    cases e1:stageA M A0 k with
    | none=>rw [e1] at e; cases e
    | some B =>
      rw [e1] at e
      cases e2:M.star (B k k) with
      | none=>simp [e2] at e
      | some r =>
        simp [e2] at e
        subst e
        have ih:=least_stage h (show k≤n by omega) e1
        intro i hi
        have z:=least_step M (show k < n by omega) e2 (y:=fun l=>if l < k then b l else x l) (if_neg (Nat.lt_irrefl k)) ih i hi
        rw [to_congr M (g:=fun l=>M.mul (ledA M B k r i l) (if l=k then b k else if l < k then b l else x l)) fun l _=>by
          by_cases c:l=k
          · subst c; rw [if_pos (Nat.lt_succ_self l),if_pos rfl]
          · rw [if_neg c]
            by_cases d:l < k
            · rw [if_pos d,if_pos (by omega)]
            · rw [if_neg d,if_neg (by omega)]]
        exact z
theorem tab_least {A0 A:Mat S} {n:Nat} (e:stageA M A0 n=some A) {x b:Nat→S} (h:∀ i,i < n→M.le (M.add (b i) (M.to n fun l=>M.mul (A0 i l) (x l))) (x i)) {i:Nat} (hi:i < n):M.le (M.to n fun l=>M.mul (tabA M A i l) (b l)) (x i):=by
  have z:=least_stage M h (Nat.le_refl n) e i hi
  refine le_trans M (le_of_eq M ?_) z
  rw [to_congr M (g:=fun l=>M.add (M.when (l=i) (b l)) (M.mul (A i l) (if l < n then b l else x l))) fun l hl=>by
    rw [tabA_eq,M.add_mul,M.when_mul,M.one_mul,if_pos hl]
    congr 1
    unfold KSR.when
    by_cases c:l=i
    · rw [if_pos c,if_pos c.symm]
    · rw [if_neg c,if_neg (Ne.symm c)],to_add]
  congr 1
  exact M.sum_range_one hi b
theorem tab_least1 {A0 A X:Mat S} {n:Nat} (e:stageA M A0 n=some A) {j:Nat} (hj:j < n) (h:∀ i,i < n→M.le (M.add (M.when (i=j) M.one) (M.to n fun l=>M.mul (A0 i l) (X l j))) (X i j)) {i:Nat} (hi:i < n):M.le (tabA M A i j) (X i j):=by
  have z:=tab_least M e (x:=fun l=>X l j) (b:=fun l=>M.when (l=j) M.one) h hi
  refine le_trans M (le_of_eq M ?_) z
  rw [to_congr M (g:=fun l=>M.when (l=j) (tabA M A i l)) fun l _=>by rw [M.mul_when,M.mul_one]]
  exact (M.sum_range_one hj fun l=>tabA M A i l).symm
end
end Ws
namespace Ws
open PySem
section
variable {S : Type} (M : KSR S)
end
end Ws
namespace Ws
open PySem
end Ws
namespace Ws
open PySem
theorem pigeon:∀ (n:Nat) (f:Nat→Nat),(∀ i,i≤n→f i < n)→∃ i j,i < j∧j≤n∧f i=f j
  | 0,f,h=>absurd (h 0 (Nat.le_refl 0)) (Nat.not_lt_zero _)
  | n + 1,f,h=>by
    by_cases c:∃ i,i≤n∧f i=f (n + 1)
    · obtain ⟨i,hi,e⟩:=c
      exact ⟨i,n + 1,by omega,Nat.le_refl _,e⟩
    · have c:∀ i,i≤n→f i≠f (n + 1):=fun i hi e=>c ⟨i,hi,e⟩
      obtain ⟨i,j,hij,hj,e⟩:=pigeon n (fun i=>if f i=n then f (n + 1) else f i) (fun i hi=>by
        show (if _ then _ else _) < _
        have a:=h i (by omega)
        have b:=h (n + 1) (Nat.le_refl _)
        have d:=c i hi
        split <;> omega)
      refine ⟨i,j,hij,by omega,?_⟩
      have e:(if f i=n then f (n + 1) else f i)=(if f j=n then f (n + 1) else f j):=e
      have a:=c i (by omega)
      have b:=c j hj
      split at e <;> split at e <;> omega
def goes {S:Type} (p:Nat):List (Edge S)→Option Nat
  | []=>some p
  | e :: l=>if e.f=p then goes e.t l else none
theorem goes_app {S:Type}:∀ {l r:List (Edge S)} {p:Nat},goes p (l ++ r)=(goes p l).bind fun v=>goes v r
  | [],r,p=>rfl
  | e :: l,r,p=>by
    show (if e.f=p then goes e.t (l ++ r) else none)=(if e.f=p then goes e.t l else none).bind _
    split
    · exact goes_app
    · rfl
theorem goes_lt {S:Type} {n:Nat}:∀ {l:List (Edge S)} {p q:Nat},p < n→(∀ e∈l,e.f < n∧e.t < n)→goes p l=some q→q < n
  | [],p,q,hp,_,h=>by cases h; exact hp
  | e :: l,p,q,hp,he,h=>by
    unfold goes at h
    split at h
    · exact goes_lt (he e List.mem_cons_self).2 (fun x hx=>he x (List.mem_cons_of_mem _ hx)) h
    · cases h
theorem goes_take {S:Type} {l:List (Edge S)} {p q:Nat} (h:goes p l=some q) (i:Nat):∃ v,goes p (l.take i)=some v∧goes v (l.drop i)=some q:=by
  have e:=h
  rw [← List.take_append_drop i l,goes_app] at e
  cases c:goes p (l.take i) with
  | none=>rw [c] at e; cases e
  | some v=>rw [c] at e; exact ⟨v,rfl,e⟩
theorem way_cut {S:Type} {n:Nat} {l:List (Edge S)} {p q:Nat} (hp:p < n) (he:∀ e∈l,e.f < n∧e.t < n) (h:goes p l=some q) (hl:n≤l.length) :
    ∃ l1 l2 l3 v,l=l1 ++ (l2 ++ l3)∧l2≠[]∧goes p l1=some v∧goes v l2=some v∧goes v l3=some q:=by
  obtain ⟨i,j,hij,hj,e⟩:=pigeon n (fun i=>(goes p (l.take i)).getD 0) (fun i _=>by
    obtain ⟨v,e1,_⟩:=goes_take h i
    show (goes p (l.take i)).getD 0 < n
    rw [e1]
    exact goes_lt hp (fun x hx=>he x (List.mem_of_mem_take hx)) e1)
  obtain ⟨v,a1,a2⟩:=goes_take h i
  obtain ⟨v',b1,b2⟩:=goes_take h j
  have e:(goes p (l.take i)).getD 0=(goes p (l.take j)).getD 0:=e
  rw [a1,b1] at e
  obtain rfl:v=v':=e
  obtain ⟨u,c1,c2⟩:=goes_take a2 (j - i)
  have ej:l.take j=l.take i ++ (l.drop i).take (j - i):=by
    have:=List.take_add (l:=l) (i:=i) (j:=j - i)
    rw [show i + (j - i)=j by omega] at this
    exact this
  rw [ej,goes_app,a1] at b1
  have b1:goes v ((l.drop i).take (j - i))=some v:=b1
  rw [c1] at b1
  obtain rfl:u=v:=Option.some.inj b1
  refine ⟨l.take i,(l.drop i).take (j - i),(l.drop i).drop (j - i),u,?_,?_,a1,c1,c2⟩
  · rw [List.take_append_drop,List.take_append_drop]
  · intro z
    have:=congrArg List.length z
    rw [List.length_take,List.length_drop,List.length_nil] at this
    omega
section
variable {S : Type} (M : KSR S)
def worthL (l:List (Edge S)):S:=l.foldr (fun e x=>M.mul e.c x) M.one
theorem worthL_app:∀ l r:List (Edge S),worthL M (l ++ r)=M.mul (worthL M l) (worthL M r)
  | [],r=>(M.one_mul _).symm
  | e :: l,r=>by
    show M.mul e.c (worthL M (l ++ r))=M.mul (M.mul e.c (worthL M l)) (worthL M r)
    rw [worthL_app l r,M.mul_assoc]
theorem mem_le_sum {α:Type} (f:α→S):∀ {l:List α} {x:α},x∈l→M.le (f x) (M.sum (l.map f))
  | [],x,h=>nomatch h
  | y :: l,x,h=>by
    show M.le (f x) (M.add (f y) (M.sum (l.map f)))
    rcases List.mem_cons.mp h with rfl | h
    · exact le_add M _ _
    · exact le_trans M (mem_le_sum f h) (le_add' M _ _)
theorem way_le {es:List (Edge S)} {p:Nat}:∀ (k:Nat) {l:List (Edge S)} {q:Nat},l.length=k→(∀ e∈l,e∈es)→goes p l=some q→M.le (worthL M l) (stepsV M es p k q)
  | 0,l,q,hl,_,h=>by
    obtain rfl:=List.length_eq_zero_iff.mp hl
    cases h
    refine le_of_eq M ?_
    show M.one=unitV M p p
    unfold unitV
    exact (if_pos rfl).symm
  | k + 1,l,q,hl,he,h=>by
    obtain ⟨r,e,rfl⟩:∃ r e,l=r ++ [e]:=⟨l.dropLast,l.getLast (by intro z; rw [z] at hl; cases hl),(List.dropLast_concat_getLast _).symm⟩
    rw [List.length_append,List.length_singleton] at hl
    rw [goes_app] at h
    cases c:goes p r with
    | none=>rw [c] at h; cases h
    | some v =>
      rw [c] at h
      have h:(if e.f=v then some e.t else none)=some q:=h
      split at h
      · rename_i ef
        cases h
        have ih:=way_le k (l:=r) (by omega) (fun x hx=>he x (List.mem_append_left _ hx)) c
        have me:e∈es:=he e (List.mem_append_right _ List.mem_cons_self)
        rw [worthL_app]
        have e1:worthL M [e]=e.c:=M.mul_one _
        rw [e1]
        show M.le _ (stepV M es (stepsV M es p k) e.t)
        have z:=mem_le_sum M (fun e':Edge S=>M.when (e'.t=e.t) (M.mul (stepsV M es p k e'.f) e'.c)) me
        refine le_trans M ?_ z
        rw [show M.when (e.t=e.t) (M.mul (stepsV M es p k e.f) e.c)=M.mul (stepsV M es p k e.f) e.c from if_pos rfl,ef]
        exact mul_le M ih (le_refl M _)
      · cases h
def upTo (es:List (Edge S)) (p k q:Nat):S:=M.to (k + 1) fun s=>stepsV M es p s q
end
end Ws
namespace Ws
open PySem
section
variable {S : Type} (M : KSR S)
theorem steps_le_tab {es:List (Edge S)} {n:Nat} (hes:∀ e∈es,e.f < n∧e.t < n) {A:Mat S} (hA:stageA M (edgeM M es) n=some A) {p:Nat} (hp:p < n):∀ (k q:Nat),M.le (stepsV M es p k q) (tabA M A p q)
  | 0,q=>by
    rw [tab_bw M hA hp]
    refine le_trans M (le_of_eq M ?_) (le_add M _ _)
    show M.when (q=p) M.one=_
    unfold KSR.when
    by_cases c:q=p
    · rw [if_pos c,if_pos c.symm]
    · rw [if_neg c,if_neg (Ne.symm c)]
  | k + 1,q=>by
    rw [tab_bw M hA hp,bw_edges M es (fun e he=>(hes e he).1) q fun l=>tabA M A p l]
    refine le_trans M ?_ (le_add' M _ _)
    show M.le (M.sum (es.map fun e=>M.when (e.t=q) (M.mul (stepsV M es p k e.f) e.c))) _
    refine sum_le M fun e he=>?_
    unfold KSR.when
    split
    · exact mul_le M (steps_le_tab hes hA hp k e.f) (le_refl M _)
    · exact le_refl M _
end
end Ws
namespace Ws
open PySem
end Ws
namespace Ws
open PySem
section
variable {S : Type} (M : KSR S)
end
end Ws
namespace Ws
open PySem
section
variable {kd : Kd} (ok : KdOk kd)
end
section
end
end Ws
namespace Ws
open PySem
structure GrT (kd:Kd) (ok:KdOk kd) (n:Nat) (es:List (Edge (Car kd))):Prop where
  nb:n≤8
  ends:∀ e∈es,e.f < n∧e.t < n
  sm:∀ e∈es,Sm 2000 (enc kd e.c)
  sum:∀ j i t,Sm 52000 (enc kd (stepV (ks kd ok) (es.take j) (unitV (ks kd ok) i) t))
section
variable {kd : Kd} {ok : KdOk kd} {m p : Nat} {es : List (Edge (Car kd))} {r : Car kd}
end
end Ws
namespace Ws
open PySem
section
variable {S : Type} (M : KSR S)
theorem stepV_add (es:List (Edge S)) (f g:Nat→S) (q:Nat):stepV M es (fun i=>M.add (f i) (g i)) q=M.add (stepV M es f q) (stepV M es g q):=by
  unfold stepV
  rw [← M.sum_add]
  refine M.sum_congr fun e _=>?_
  unfold KSR.when
  by_cases c:e.t=q
  · rw [if_pos c,if_pos c,if_pos c,M.mul_comm,M.mul_add,M.mul_comm,M.mul_comm e.c]
  · rw [if_neg c,if_neg c,if_neg c,M.add_zero]
theorem upTo_next (es:List (Edge S)) (p k q:Nat):upTo M es p (k + 1) q=M.add (upTo M es p k q) (stepsV M es p (k + 1) q):=to_succ M (k + 1) _
theorem upTo_rec (es:List (Edge S)) (p:Nat):∀ k q,M.add (unitV M p q) (stepV M es (fun i=>upTo M es p k i) q)=upTo M es p (k + 1) q
  | 0,q=>by
    rw [upTo_next]
    have e:(fun i=>upTo M es p 0 i)=stepsV M es p 0:=by funext i; exact M.add_zero _
    rw [e]
    congr 1
    exact (M.add_zero _).symm
  | k + 1,q=>by
    have e:(fun i=>upTo M es p (k + 1) i)=fun i=>M.add (upTo M es p k i) (stepsV M es p (k + 1) i):=by funext i; exact upTo_next M es p k i
    rw [e,stepV_add,← M.add_assoc,upTo_rec es p k q,upTo_next M es p (k + 1)]
    rfl
def itS (es:List (Edge S)) (f:Nat→S):Nat→Nat→S
  | 0=>f
  | k + 1=>stepV M es (itS es f k)
theorem tab_step {es:List (Edge S)} {n:Nat} (hes:∀ e∈es,e.f < n∧e.t < n) {A:Mat S} (hA:stageA M (edgeM M es) n=some A) {p:Nat} (hp:p < n) (q:Nat):tabA M A p q=M.add (unitV M p q) (stepV M es (fun i=>tabA M A p i) q):=by
  rw [tab_bw M hA hp,bw_edges M es (fun e he=>(hes e he).1) q (fun l=>tabA M A p l)]
  congr 1
  unfold unitV KSR.when
  by_cases c:p=q
  · rw [if_pos c,if_pos c.symm]
  · rw [if_neg c,if_neg (Ne.symm c)]
theorem tab_tail {es:List (Edge S)} {n:Nat} (hes:∀ e∈es,e.f < n∧e.t < n) {A:Mat S} (hA:stageA M (edgeM M es) n=some A) {p:Nat} (hp:p < n):∀ k q,tabA M A p q=M.add (upTo M es p k q) (itS M es (fun i=>tabA M A p i) (k + 1) q)
  | 0,q=>by
    rw [tab_step M hes hA hp q]
    congr 1
    exact (M.add_zero _).symm
  | k + 1,q=>by
    rw [tab_step M hes hA hp q]
    have e:(fun i=>tabA M A p i)=fun i=>M.add (upTo M es p k i) (itS M es (fun i=>tabA M A p i) (k + 1) i):=by funext i; exact tab_tail hes hA hp k i
    have e2:stepV M es (fun i=>tabA M A p i) q=M.add (stepV M es (fun i=>upTo M es p k i) q) (stepV M es (itS M es (fun i=>tabA M A p i) (k + 1)) q):=(congrArg (fun f=>stepV M es f q) e).trans (stepV_add M es _ _ q)
    rw [e2,← M.add_assoc,upTo_rec M es p k q]
    rfl
theorem upTo_le_tab {es:List (Edge S)} {n:Nat} (hes:∀ e∈es,e.f < n∧e.t < n) {A:Mat S} (hA:stageA M (edgeM M es) n=some A) {p:Nat} (hp:p < n) (k q:Nat):M.le (upTo M es p k q) (tabA M A p q):=⟨_,(tab_tail M hes hA hp k q).symm⟩
end
end Ws
namespace Ws
open PySem
def rsum (n:Nat) (f:Nat→Rat):Rat:=((List.range n).map f).sum
theorem rsum_zero (f:Nat→Rat):rsum 0 f=0:=rfl
theorem rsum_succ (n:Nat) (f:Nat→Rat):rsum (n + 1) f=rsum n f + f n:=by
  unfold rsum
  rw [List.range_succ,List.map_append,List.sum_append]
  show _ + (f n + 0)=_
  grind
theorem rsum_congr {n:Nat} {f g:Nat→Rat} (h:∀ i,i < n→f i=g i):rsum n f=rsum n g:=by
  unfold rsum
  rw [List.map_congr_left fun i hi=>h i (List.mem_range.mp hi)]
theorem rsum_add (f g:Nat→Rat):∀ n,rsum n (fun i=>f i + g i)=rsum n f + rsum n g
  | 0=>by rw [rsum_zero,rsum_zero,rsum_zero]; grind
  | n + 1=>by rw [rsum_succ,rsum_succ,rsum_succ,rsum_add f g n]; grind
theorem rsum_mul (c:Rat) (f:Nat→Rat):∀ n,rsum n (fun i=>c * f i)=c * rsum n f
  | 0=>by rw [rsum_zero,rsum_zero]; grind
  | n + 1=>by rw [rsum_succ,rsum_succ,rsum_mul c f n]; grind
theorem rsum_le {f g:Nat→Rat}:∀ {n:Nat},(∀ i,i < n→f i≤g i)→rsum n f≤rsum n g
  | 0,_=>Rat.le_refl
  | n + 1,h=>by
    rw [rsum_succ,rsum_succ]
    have a:=rsum_le (n:=n) fun i hi=>h i (by omega)
    have b:=h n (by omega)
    grind
theorem rsum_at (f:Nat→Rat) (k:Nat):∀ n,rsum n (fun i=>if i=k then f i else 0)=if k < n then f k else 0
  | 0=>rfl
  | n + 1=>by
    rw [rsum_succ,rsum_at f k n]
    by_cases c:k < n
    · rw [if_pos c,if_neg (by omega),if_pos (by omega)]; grind
    · rw [if_neg c]
      by_cases d:n=k
      · subst d; rw [if_pos rfl,if_pos (by omega)]; grind
      · rw [if_neg d,if_neg (by omega)]; grind
def gsum (n:Nat) (C:Nat→Bool) (f:Nat→Rat):Rat:=rsum n fun y=>if C y=true then f y else 0
theorem gsum_add {n:Nat} {C:Nat→Bool} {f g:Nat→Rat}:gsum n C (fun i=>f i + g i)=gsum n C f + gsum n C g:=by
  unfold gsum
  rw [← rsum_add]
  refine rsum_congr fun i _=>?_
  by_cases c:C i=true
  · rw [if_pos c,if_pos c,if_pos c]
  · rw [if_neg c,if_neg c,if_neg c]; grind
theorem gsum_mul {n:Nat} {C:Nat→Bool} (c:Rat) {f:Nat→Rat}:gsum n C (fun i=>c * f i)=c * gsum n C f:=by
  unfold gsum
  rw [← rsum_mul]
  refine rsum_congr fun i _=>?_
  by_cases d:C i=true
  · rw [if_pos d,if_pos d]
  · rw [if_neg d,if_neg d]; grind
theorem gsum_more {n k:Nat} {C D:Nat→Bool} {f:Nat→Rat} (hk:k < n) (h1:¬ C k=true) (hD:∀ i,D i=(C i || decide (i=k))):gsum n D f=gsum n C f + f k:=by
  have e:gsum n D f=rsum n fun i=>(if C i=true then f i else 0) + (if i=k then f i else 0):=by
    refine rsum_congr fun i _=>?_
    rw [hD]
    by_cases c:i=k
    · subst c
      rw [if_pos (by simp),if_neg h1,if_pos rfl]; grind
    · rw [if_neg c]
      by_cases d:C i=true
      · rw [if_pos (by simp [d]),if_pos d]; grind
      · rw [if_neg (by simp [c,d]),if_neg d]; grind
  rw [e,rsum_add,rsum_at,if_pos hk]; rfl
theorem gsum_mono {n:Nat} {C D:Nat→Bool} {f:Nat→Rat} (h:∀ i,i < n→C i=true→D i=true) (h0:∀ i,i < n→0≤f i):gsum n C f≤gsum n D f:=by
  refine rsum_le fun i hi=>?_
  by_cases c:C i=true
  · rw [if_pos c,if_pos (h i hi c)]; exact Rat.le_refl
  · rw [if_neg c]
    split
    · exact h0 i hi
    · exact Rat.le_refl
structure Closed (n k:Nat) (A:Mat Cha) (C:Nat→Bool):Prop where
  sub:∀ x,C x=true→k≤x∧x < n
  ex:∃ x,C x=true
  full:∀ x,C x=true→1≤gsum n C fun y=>(A x y).1
def Sub (n k:Nat) (A:Mat Cha):Prop:=∀ x,k≤x→x < n→gsum n (fun y=>decide (k≤y)) (fun y=>(A x y).1)≤1
theorem led_gsum {n k:Nat} {A:Mat Cha} {r:Cha} (C:Nat→Bool) (x:Nat):gsum n C (fun y=>(ledA ksChances A k r x y).1)=gsum n C (fun y=>(A x y).1) + (A x k).1 * r.1 * gsum n C (fun y=>(A k y).1):=by
  rw [← gsum_mul,← gsum_add]; rfl
theorem cha_star {a r:Cha} (h:ksChances.star a=some r):a.1 < 1∧r.1 * (1 - a.1)=1:=by
  have lt:a.1 < 1:=by
    by_cases c:a.1 < 1
    · exact c
    · rw [chances_ge _ c] at h; cases h
  rw [chances_lt _ lt] at h
  have e:r.1=(1 - a.1)⁻¹:=by cases h; rfl
  exact ⟨lt,by rw [e]; exact Rat.inv_mul_cancel _ (by grind)⟩
theorem sub_part {n k:Nat} {A:Mat Cha} (hs:Sub n k A) {C:Nat→Bool} (hC:∀ y,C y=true→k + 1≤y∧y < n) (hk:k < n) {x:Nat} (h1:k≤x) (h2:x < n):gsum n C (fun y=>(A x y).1) + (A x k).1≤1:=by
  have e:=gsum_more (n:=n) (k:=k) (C:=C) (D:=fun y=>C y || decide (y=k)) (f:=fun y=>(A x y).1) hk (fun z=>by have:=(hC k z).1; omega) (fun _=>rfl)
  have m:gsum n (fun y=>C y || decide (y=k)) (fun y=>(A x y).1)≤gsum n (fun y=>decide (k≤y)) (fun y=>(A x y).1):=gsum_mono (fun i _ h=>by
    rcases Bool.or_eq_true_iff.mp h with h | h
    · exact decide_eq_true (by have:=(hC i h).1; omega)
    · exact decide_eq_true (by have:=of_decide_eq_true h; omega)) (fun i _=>(A x i).2)
  have:=hs x h1 h2
  grind
theorem Closed.up {n k:Nat} {A:Mat Cha} {r:Cha} {C:Nat→Bool} (hs:Sub n k A) (hk:k < n) (hr:ksChances.star (A k k)=some r) (h:Closed n (k + 1) (ledA ksChances A k r) C):∃ D,Closed n k A D:=by
  obtain ⟨lt,er⟩:=cha_star hr
  have hC:=h.sub
  have full:∀ x,C x=true→1≤gsum n C (fun y=>(A x y).1) + (A x k).1 * r.1 * gsum n C (fun y=>(A k y).1):=fun x hx=>by
    have:=h.full x hx
    rw [led_gsum] at this; exact this
  have a2:=sub_part hs hC hk (Nat.le_refl k) hk
  have r0:=r.2
  by_cases all:∀ x,C x=true→(A x k).1=0
  · refine ⟨C,fun x hx=>⟨by have:=(hC x hx).1; omega,(hC x hx).2⟩,h.ex,fun x hx=>?_⟩
    have:=full x hx
    rw [all x hx] at this
    grind
  · obtain ⟨x0,hx0⟩:=Classical.not_forall.mp all
    obtain ⟨c0,nz⟩:=Classical.not_imp.mp hx0
    have nC:¬ C k=true:=fun z=>by have:=(hC k z).1; omega
    have more:∀ x,gsum n (fun y=>C y || decide (y=k)) (fun y=>(A x y).1)=gsum n C (fun y=>(A x y).1) + (A x k).1:=fun x=>gsum_more (f:=fun y=>(A x y).1) hk nC (fun _=>rfl)
    have s1:r.1 * gsum n C (fun y=>(A k y).1)≤1:=by
      have:=Rat.mul_le_mul_of_nonneg_left (show gsum n C (fun y=>(A k y).1)≤1 - (A k k).1 by grind) r0
      rw [er] at this; exact this
    have s2:1≤r.1 * gsum n C (fun y=>(A k y).1):=by
      have f0:=full x0 c0
      have p0:=sub_part hs hC hk (show k≤x0 by have:=(hC x0 c0).1; omega) (hC x0 c0).2
      have g0:=(A x0 k).2
      generalize gsum n C (fun y=>(A x0 y).1)=sx at *
      generalize gsum n C (fun y=>(A k y).1)=sk at *
      generalize (A x0 k).1=a at *
      have e:a * r.1 * sk=a * (r.1 * sk):=Rat.mul_assoc ..
      rw [e] at f0
      generalize r.1 * sk=u at *
      have pos:0 < a:=by grind
      have:a * 1≤a * u:=by grind
      by_cases c:1≤u
      · exact c
      · have:=Rat.mul_lt_mul_of_pos_left (show u < 1 by grind) pos
        grind
    refine ⟨fun y=>C y || decide (y=k),fun x hx=>?_,⟨k,by simp⟩,fun x hx=>?_⟩
    · rcases Bool.or_eq_true_iff.mp hx with hx | hx
      · exact ⟨by have:=(hC x hx).1; omega,(hC x hx).2⟩
      · have:=of_decide_eq_true hx; omega
    · rw [more]
      rcases Bool.or_eq_true_iff.mp hx with hx | hx
      · have f0:=full x hx
        have g0:=(A x k).2
        generalize gsum n C (fun y=>(A x y).1)=sx at *
        generalize gsum n C (fun y=>(A k y).1)=sk at *
        generalize (A x k).1=a at *
        have e:a * r.1 * sk=a * (r.1 * sk):=Rat.mul_assoc ..
        rw [e] at f0
        have:=Rat.mul_le_mul_of_nonneg_left s1 g0
        grind
      · obtain rfl:x=k:=of_decide_eq_true hx
        have s3:gsum n C (fun y=>(A x y).1)=(1 - (A x x).1) * (r.1 * gsum n C (fun y=>(A x y).1)):=by
          rw [← Rat.mul_assoc,Rat.mul_comm (1 - (A x x).1),er]; grind
        have:=Rat.mul_le_mul_of_nonneg_left s2 (show 0≤1 - (A x x).1 by grind)
        grind
end Ws
namespace Ws
open PySem
def rowS (es:List (Edge Cha)) (x:Nat):Rat:=((es.filter fun e=>decide (e.f=x)).map fun e=>e.c.1).sum
structure Fil (n p:Nat) (D:Nat→Nat) (es:List (Edge Cha)):Prop where
  ends:∀ e∈es,e.f < n∧e.t < n
  pos:∀ x,0 < D x
  lo:∀ x,p≤x→D x < 2 ^ 24
  hi:∀ x,D x < 2 ^ 26
  int:∀ e∈es,∃ k:Nat,e.c.1 * (D e.f:Rat)=(k:Rat)
  row:∀ x,rowS es x≤1
theorem Fil.skip {n p:Nat} {D:Nat→Nat} {es:List (Edge Cha)} (F:Fil n p D es):Fil n (p + 1) D es:=⟨F.ends,F.pos,fun x hx=>F.lo x (by omega),F.hi,F.int,F.row⟩
end Ws
namespace Ws
open PySem
theorem cAdd0 {a b:Option Nat}:oAdd a b=some 0 ↔ a=some 0∧b=some 0:=by
  cases a <;> cases b <;> simp [oAdd]
theorem cMul0 {a b:Option Nat}:oMul a b=some 0 ↔ a=some 0∨b=some 0:=by
  rcases a with _ | _ | a <;> rcases b with _ | _ | b <;> simp [oMul]
theorem cle_none {b:Option Nat} (h:ksCounted.le none b):b=none:=by
  obtain ⟨c,h⟩:=h
  have h:oAdd none c=b:=h
  rw [← h]; cases c <;> rfl
theorem cle_ne {a b:Option Nat} (h:ksCounted.le a b) (ha:a≠some 0):b≠some 0:=by
  obtain ⟨c,h⟩:=h
  have h:oAdd a c=b:=h
  rw [← h]
  exact fun z=>ha (cAdd0.mp z).1
theorem cle_some {v N:Nat} (h:ksCounted.le (some v) (some N)):v≤N:=by
  obtain ⟨c,h⟩:=h
  have h:oAdd (some v) c=some N:=h
  cases c with
  | none=>cases h
  | some c=>have:=Option.some.inj h; omega
theorem cle_is {a:Option Nat} {N:Nat} (h:ksCounted.le a (some N)):∃ v,a=some v∧v≤N:=by
  cases a with
  | none=>cases cle_none h
  | some v=>exact ⟨v,rfl,cle_some h⟩
theorem csum_ne {α:Type} (f:α→Option Nat):∀ {l:List α},ksCounted.sum (l.map f)≠some 0→∃ x∈l,f x≠some 0
  | [],h=>absurd rfl h
  | x :: l,h=>by
    by_cases c:f x=some 0
    · have:ksCounted.sum (l.map f)≠some 0:=fun z=>h (cAdd0.mpr ⟨c,z⟩)
      obtain ⟨y,hy,hf⟩:=csum_ne f this
      exact ⟨y,List.mem_cons_of_mem _ hy,hf⟩
    · exact ⟨x,List.mem_cons_self,c⟩
abbrev CE:=Edge (Option Nat)
def Live (es l:List CE):Prop:=∀ e∈l,e∈es∧e.c≠some 0
def Rch (es:List CE) (i j:Nat):Prop:=∃ l,Live es l∧goes i l=some j
theorem Live.app {es l r:List CE} (h:Live es l) (h':Live es r):Live es (l ++ r):=fun e he=>(List.mem_append.mp he).elim (h e) (h' e)
theorem Live.worth {es:List CE}:∀ {l:List CE},Live es l→worthL ksCounted l≠some 0
  | [],_=>fun z=>by cases z
  | e :: l,h=>fun z=>by
    rcases cMul0.mp (show oMul e.c (worthL ksCounted l)=some 0 from z) with z | z
    · exact (h e List.mem_cons_self).2 z
    · exact Live.worth (fun x hx=>h x (List.mem_cons_of_mem _ hx)) z
theorem Rch.refl {es:List CE} (i:Nat):Rch es i i:=⟨[],(fun _ h=>nomatch h),rfl⟩
theorem Rch.trans {es:List CE} {i j k:Nat} (h:Rch es i j) (h':Rch es j k):Rch es i k:=by
  obtain ⟨l,a,b⟩:=h
  obtain ⟨r,c,d⟩:=h'
  exact ⟨l ++ r,a.app c,by rw [goes_app,b]; exact d⟩
theorem goes_one (e:CE):goes e.f [e]=some e.t:=by
  unfold goes
  rw [if_pos rfl]; rfl
theorem goes_cons (e:CE) (l:List CE):goes e.f (e :: l)=goes e.t l:=by
  rw [goes.eq_def]
  dsimp only
  rw [if_pos rfl]
theorem Rch.edge {es:List CE} {e:CE} (he:e∈es) (hc:e.c≠some 0):Rch es e.f e.t:=⟨[e],fun x hx=>by rw [List.mem_singleton.mp hx]; exact ⟨he,hc⟩,goes_one e⟩
def Endl (es:List CE) (i j:Nat):Prop:=∃ e∈es,e.c≠some 0∧Rch es i e.f∧Rch es e.t j∧(e.c=none∨Rch es e.t e.f)
section
variable {es : List CE} {n : Nat} {A : Mat (Option Nat)}
theorem way_tab (hes:∀ e∈es,e.f < n∧e.t < n) (hA:stageA ksCounted (edgeM ksCounted es) n=some A) {i j:Nat} (hi:i < n) {l:List CE} (hl:Live es l) (hg:goes i l=some j):ksCounted.le (worthL ksCounted l) (tabA ksCounted A i j) :=
  le_trans _ (way_le ksCounted l.length rfl (fun e he=>(hl e he).1) hg) (steps_le_tab ksCounted hes hA hi l.length j)
theorem edge_ne {i l:Nat} (h:edgeM ksCounted es i l≠some 0):∃ e∈es,e.f=i∧e.t=l∧e.c≠some 0:=by
  rw [edgeM_eq] at h
  obtain ⟨e,he,hf⟩:=csum_ne _ h
  by_cases c1:e.f=i
  · by_cases c2:e.t=l
    · refine ⟨e,he,c1,c2,fun z=>hf ?_⟩
      unfold KSR.when
      rw [if_pos c1,if_pos c2]; exact z
    · exact absurd (by unfold KSR.when; rw [if_pos c1,if_neg c2]; rfl) hf
  · exact absurd (by unfold KSR.when; rw [if_neg c1]; rfl) hf
open Classical in
theorem rch_of_tab (hes : ∀ e ∈ es, e.f < n ∧ e.t < n) (hA : stageA ksCounted (edgeM ksCounted es) n = some A) {i j : Nat} (hi : i < n) (hj : j < n) (h : tabA ksCounted A i j ≠ some 0) : Rch es i j := by
  have z := tab_least1 ksCounted hA (X := fun i j => if Rch es i j then none else some 0) hj (fun i hi => ?_) hi
  · by_cases c : Rch es i j
    · exact c
    · rw [if_neg c] at z
      obtain ⟨v, e, le⟩ := cle_is z
      exact absurd (e.trans (congrArg some (Nat.le_zero.mp le))) h
  · by_cases c : Rch es i j
    · rw [if_pos c]
      exact ⟨none, by show oAdd _ none = none; cases (ksCounted.add _ _) <;> rfl⟩
    · rw [if_neg c]
      have ne : ¬ i = j := fun e => c (e ▸ Rch.refl i)
      have s0 : (ksCounted.to n fun l => ksCounted.mul (edgeM ksCounted es i l) (if Rch es l j then none else some 0)) = some 0 := by
        by_cases d : (ksCounted.to n fun l => ksCounted.mul (edgeM ksCounted es i l) (if Rch es l j then none else some 0)) = some 0
        · exact d
        · exfalso
          obtain ⟨l, _, hl⟩ := csum_ne _ d
          have hl : ¬ oMul (edgeM ksCounted es i l) (if Rch es l j then none else some 0) = some 0 := hl
          have h1 : edgeM ksCounted es i l ≠ some 0 := fun y => hl (cMul0.mpr (.inl y))
          have h2 : Rch es l j := by
            by_cases y : Rch es l j
            · exact y
            · rw [if_neg y] at hl; exact absurd (cMul0.mpr (.inr rfl)) hl
          obtain ⟨e, he, ef, et, ec⟩ := edge_ne h1
          subst ef
          subst et
          exact c ((Rch.edge he ec).trans h2)
      rw [s0]
      unfold KSR.when
      rw [if_neg ne]
      exact ⟨some 0, rfl⟩
theorem cyc_way {e:CE} {l:List CE} (hl:Live es (e :: l)) (hg:goes e.t l=some e.f):∀ t:Nat,∃ r,Live es r∧goes e.f r=some e.f∧t≤r.length
  | 0=>⟨[],(fun _ h=>nomatch h),rfl,Nat.le_refl 0⟩
  | t + 1=>by
    obtain ⟨r,a,b,c⟩:=cyc_way hl hg t
    refine ⟨(e :: l) ++ r,hl.app a,?_,?_⟩
    · rw [goes_app,goes_cons,hg]; exact b
    · rw [List.length_append,List.length_cons]; omega
theorem upTo_mono {S:Type} (M:KSR S) (es:List (Edge S)) (p q k:Nat):∀ d,M.le (upTo M es p k q) (upTo M es p (k + d) q)
  | 0=>le_refl M _
  | d + 1=>le_trans M (upTo_mono M es p q k d) (by rw [← Nat.add_assoc,upTo_next]; exact le_add M _ _)
theorem grows {i j N:Nat} (hT:∀ k,ksCounted.le (upTo ksCounted es i k j) (some N)) (h:∀ K,∃ k,K≤k∧stepsV ksCounted es i k j≠some 0):∀ m,∃ k v,upTo ksCounted es i k j=some v∧m≤v
  | 0=>let ⟨v,e,_⟩:=cle_is (hT 0); ⟨0,v,e,Nat.zero_le v⟩
  | m + 1=>by
    obtain ⟨k,v,e,hv⟩:=grows hT h m
    obtain ⟨k',hk,hs⟩:=h (k + 1)
    obtain ⟨d,rfl⟩:∃ d,k'=k + d + 1:=⟨k' - k - 1,by omega⟩
    have mo:=upTo_mono ksCounted es i j k d
    rw [e] at mo
    obtain ⟨w,ew,_⟩:=cle_is (hT (k + d + 1))
    obtain ⟨u,eu,_⟩:=cle_is (hT (k + d))
    rw [eu] at mo
    have vu:=cle_some mo
    refine ⟨k + d + 1,w,ew,?_⟩
    rw [upTo_next,eu] at ew
    have ew:oAdd (some u) (stepsV ksCounted es i (k + d + 1) j)=some w:=ew
    cases hx:stepsV ksCounted es i (k + d + 1) j with
    | none=>rw [hx] at ew; cases ew
    | some x =>
      rw [hx] at ew hs
      have:=Option.some.inj ew
      have:x≠0:=fun z=>hs (by rw [z])
      omega
theorem tab_endless (hes:∀ e∈es,e.f < n∧e.t < n) (hA:stageA ksCounted (edgeM ksCounted es) n=some A) {i j:Nat} (hi:i < n) (h:Endl es i j):tabA ksCounted A i j=none:=by
  obtain ⟨e,he,ec,⟨l1,a1,g1⟩,⟨l2,a2,g2⟩,h⟩:=h
  have ae:Live es [e]:=fun x hx=>by rw [List.mem_singleton.mp hx]; exact ⟨he,ec⟩
  rcases h with h | ⟨l3,a3,g3⟩
  · have lv:Live es (l1 ++ ([e] ++ l2)):=a1.app (ae.app a2)
    have g:goes i (l1 ++ ([e] ++ l2))=some j:=by
      rw [goes_app,g1]
      show goes e.f ([e] ++ l2)=some j
      rw [List.singleton_append,goes_cons]; exact g2
    have le:=way_tab hes hA hi lv g
    have w:worthL ksCounted (l1 ++ ([e] ++ l2))=none:=by
      rw [worthL_app,worthL_app]
      show oMul (worthL ksCounted l1) (oMul (oMul e.c (some 1)) (worthL ksCounted l2))=none
      rw [h]
      have n1:=a1.worth
      have n2:=a2.worth
      generalize worthL ksCounted l1=x at n1
      generalize worthL ksCounted l2=y at n2
      rcases x with _ | _ | x <;> rcases y with _ | _ | y <;> first | rfl | exact absurd rfl n1 | exact absurd rfl n2
    rw [w] at le
    exact cle_none le
  · cases hT:tabA ksCounted A i j with
    | none=>rfl
    | some N =>
      exfalso
      have up:∀ k,ksCounted.le (upTo ksCounted es i k j) (some N):=fun k=>by rw [← hT]; exact upTo_le_tab ksCounted hes hA hi k j
      have inf:∀ K,∃ k,K≤k∧stepsV ksCounted es i k j≠some 0:=fun K=>by
        obtain ⟨r,ar,gr,lr⟩:=cyc_way (e:=e) (l:=l3) (fun x hx=>(List.mem_cons.mp hx).elim (fun z=>z ▸ ⟨he,ec⟩) (a3 x)) g3 K
        have lv:Live es (l1 ++ (r ++ ([e] ++ l2))):=a1.app (ar.app (ae.app a2))
        have g:goes i (l1 ++ (r ++ ([e] ++ l2)))=some j:=by
          rw [goes_app,g1]
          show goes e.f (r ++ ([e] ++ l2))=some j
          rw [goes_app,gr]
          show goes e.f ([e] ++ l2)=some j
          rw [List.singleton_append,goes_cons]; exact g2
        refine ⟨(l1 ++ (r ++ ([e] ++ l2))).length,by rw [List.length_append,List.length_append]; omega,?_⟩
        exact cle_ne (way_le ksCounted _ rfl (fun x hx=>(lv x hx).1) g) lv.worth
      obtain ⟨k,v,e1,e2⟩:=grows up inf (N + 1)
      have:=up k
      rw [e1] at this
      have:=cle_some this
      omega
theorem itS_ne (f:Nat→Option Nat):∀ {k q:Nat},itS ksCounted es f k q≠some 0→∃ l x,l.length=k∧Live es l∧goes x l=some q∧f x≠some 0
  | 0,q,h=>⟨[],q,rfl,(fun _ h=>nomatch h),rfl,h⟩
  | k + 1,q,h=>by
    obtain ⟨e,he,hf⟩:=csum_ne _ (show ksCounted.sum (es.map fun e=>ksCounted.when (e.t=q) (ksCounted.mul (itS ksCounted es f k e.f) e.c))≠some 0 from h)
    by_cases c:e.t=q
    · have hf:¬ oMul (itS ksCounted es f k e.f) e.c=some 0:=by
        unfold KSR.when at hf
        rw [if_pos c] at hf
        exact hf
      have h1:itS ksCounted es f k e.f≠some 0:=fun z=>hf (cMul0.mpr (.inl z))
      have h2:e.c≠some 0:=fun z=>hf (cMul0.mpr (.inr z))
      obtain ⟨l,x,a1,a2,a3,a4⟩:=itS_ne f h1
      refine ⟨l ++ [e],x,by rw [List.length_append,a1]; rfl,a2.app fun y hy=>by rw [List.mem_singleton.mp hy]; exact ⟨he,h2⟩,?_,a4⟩
      rw [goes_app,a3]
      show goes e.f [e]=some q
      rw [goes_one,c]
    · exact absurd (by unfold KSR.when; rw [if_neg c]; rfl) hf
theorem tab_finite (hes:∀ e∈es,e.f < n∧e.t < n) (hA:stageA ksCounted (edgeM ksCounted es) n=some A) {i j:Nat} (hi:i < n) (hj:j < n) (h:¬ Endl es i j):tabA ksCounted A i j=upTo ksCounted es i (n - 1) j:=by
  have z:=tab_tail ksCounted hes hA hi (n - 1) j
  have e:n - 1 + 1=n:=by omega
  rw [e] at z
  have z0:itS ksCounted es (fun q=>tabA ksCounted A i q) n j=some 0:=by
    by_cases d:itS ksCounted es (fun q=>tabA ksCounted A i q) n j=some 0
    · exact d
    · exfalso
      obtain ⟨l,x,len,lv,g,tx⟩:=itS_ne _ d
      have xn:x < n:=by
        cases l with
        | nil=>simp at len; omega
        | cons e l =>
          have:e.f=x:=by
            by_cases c:e.f=x
            · exact c
            · rw [goes.eq_def] at g
              dsimp only at g
              rw [if_neg c] at g; cases g
          rw [← this]; exact (hes e (lv e List.mem_cons_self).1).1
      have rx:=rch_of_tab hes hA hi xn tx
      obtain ⟨l1,l2,l3,v,rfl,ne,g1,g2,g3⟩:=way_cut xn (fun e he=>hes e (lv e he).1) g (by omega)
      have v1:Live es l1:=fun e he=>lv e (List.mem_append_left _ he)
      have v2:Live es l2:=fun e he=>lv e (List.mem_append_right _ (List.mem_append_left _ he))
      have v3:Live es l3:=fun e he=>lv e (List.mem_append_right _ (List.mem_append_right _ he))
      cases l2 with
      | nil=>exact ne rfl
      | cons e l2 =>
        have ef:e.f=v:=by
          by_cases c:e.f=v
          · exact c
          · rw [goes.eq_def] at g2
            dsimp only at g2
            rw [if_neg c] at g2; cases g2
        subst ef
        rw [goes_cons] at g2
        obtain ⟨he,hc⟩:=v2 e List.mem_cons_self
        have r2:Rch es e.t e.f:=⟨l2,fun x hx=>v2 x (List.mem_cons_of_mem _ hx),g2⟩
        exact h ⟨e,he,hc,rx.trans ⟨l1,v1,g1⟩,r2.trans ⟨l3,v3,g3⟩,.inr r2⟩
  rw [z0] at z
  rw [z]
  exact ksCounted.add_zero _
end
end Ws
namespace K10
open PySem L2 Ws
seal PE PT PW PA PC PS PSs PG PGs PI PO
def top (i : Nat) : Stmt := PySem.Challenge.pw_waysum_k10_whole_how_many_ways.main.body.getD i (.Pass ⟨0, 0, 0, 0⟩)
structure Adr where
  (cSumError cNoNet cNoWorth cKind cCounted cNet:Addr)
  (tMOST_PLACES tMOST_ROADS:Tok)
def HasK:Kd→Prop
  | .fewest=>False
  | .widest=>False
  | .counted=>True
  | .likeliest=>False
  | .chances=>False
  | .musts=>False
  | .rests _=>False
def Adr.cls (a:Adr):Kd→Addr
  | .fewest=>0
  | .widest=>0
  | .counted=>a.cCounted
  | .likeliest=>0
  | .chances=>0
  | .musts=>0
  | .rests _=>0
structure Tx (K:PySem.W.Frag) (mg:Str→Option Value) (a:Adr):Prop where
  b_isinstance:mg "isinstance"=none
  b_len:mg "len"=none
  b_int:mg "int"=none
  b_bool:mg "bool"=none
  b_tuple:mg "tuple"=none
  b_list:mg "list"=none
  b_ValueError:mg "ValueError"=none
  b_range:mg "range"=none
  b_min:mg "min"=none
  b_max:mg "max"=none
  b_enumerate:mg "enumerate"=none
  c_MOST_PLACES:mg "MOST_PLACES"=some (.int 8 a.tMOST_PLACES)
  c_MOST_ROADS:mg "MOST_ROADS"=some (.int 64 a.tMOST_ROADS)
  g_SumError:mg "SumError"=some (.ref a.cSumError)
  g_NoNet:mg "NoNet"=some (.ref a.cNoNet)
  g_NoWorth:mg "NoWorth"=some (.ref a.cNoWorth)
  g_Kind:mg "Kind"=some (.ref a.cKind)
  g_Counted:mg "Counted"=some (.ref a.cCounted)
  g_Net:mg "Net"=some (.ref a.cNet)
  x_NoNet:ExC K mg "NoNet" a.cNoNet
  exk_NoNet:ExK K a.cNoNet
  x_NoWorth:ExC K mg "NoWorth" a.cNoWorth
  exk_NoWorth:ExK K a.cNoWorth
  n_Counted:Mk0 K mg "Counted" a.cCounted
  mk_Net:PySem.W.makesIn K a.cNet=true
  kp_Net:PySem.W.keepIn K (.ref a.cNet)=true
  na_Net_own_kind:NoAttr K a.cNet "own_kind"
  na_Net_how_many:NoAttr K a.cNet "how_many"
  na_Net_own_roads:NoAttr K a.cNet "own_roads"
  cl_Net:Cls K a.cNet
  cl:∀ kd,HasK kd→Cls K (a.cls kd)
abbrev KI:={kd:Kd // HasK kd}
abbrev Adr.cl (a:Adr) (i:KI):Addr:=a.cls i.1
def IsW (H:Hp):V→Wd→Prop
  | .non,.non=>True
  | .int i,.int j=>i=j
  | .ref p,.pair a b=>H p=some (.tup [.int a,.int b])
  | _,_=>False
theorem IsW.same {H H':Hp} (e:Same H H'):∀ {v:V} {w:Wd},IsW H v w→IsW H' v w
  | .non,.non,_=>True.intro
  | .int _,.int _,h=>h
  | .ref _,.pair _ _,h=>e _ _ h
theorem isW_cases {H:Hp}:∀ {v:V} {w:Wd},IsW H v w→(v=.non∧w=.non)∨(∃ i,v=.int i∧w=.int i)∨(∃ p a b,v=.ref p∧w=.pair a b∧H p=some (.tup [.int a,.int b]))
  | .non,.non,_=>.inl ⟨rfl,rfl⟩
  | .int _,.int _,h=>.inr (.inl ⟨_,rfl,congrArg Wd.int h.symm⟩)
  | .ref _,.pair _ _,h=>.inr (.inr ⟨_,_,_,rfl,rfl,h⟩)
theorem kit_nI {K:PySem.W.Frag}:PySem.W.kitOne K (.type "NoneType") (.type "int")=some false:=by rfl
theorem kit_iI {K:PySem.W.Frag}:PySem.W.kitOne K (.type "int") (.type "int")=some true:=by rfl
theorem kit_tI {K:PySem.W.Frag}:PySem.W.kitOne K (.type "tuple") (.type "int")=some false:=by rfl
theorem kit_iT {K:PySem.W.Frag}:PySem.W.kitOne K (.type "int") (.type "tuple")=some false:=by rfl
theorem kit_tT {K:PySem.W.Frag}:PySem.W.kitOne K (.type "tuple") (.type "tuple")=some true:=by rfl
def kfs:Kd→List (Str × V)
  | .rests m=>[("m",.int (m:Int))]
  | _=>[]
def KindAt (a:Adr) (H:Hp) (p:Addr) (kd:Kd):Prop:=∃ dx,H p=some (.ins (a.cls kd) dx (kfs kd))
section
variable {P : Program} {w : World} {K : PySem.W.Frag} {mg : Str → Option Value} {base : Heap} {a : Adr}
theorem log2_small {i:Int} (h:i.natAbs < 10 ^ 62):i.natAbs.log2 < 1920:=by
  by_cases z:i.natAbs=0
  · rw [z]; decide
  · have:=(Nat.log2_lt z (k:=210)).mpr (Nat.lt_trans h (by decide))
    omega
theorem isW_int {H:Hp} {v:V} {i:Int} (h:IsW H v (.int i)):v=.int i:=by
  rcases isW_cases h with ⟨_,z⟩ | ⟨j,e,z⟩ | ⟨p,x,y,_,z,_⟩ <;> cases z
  exact e
theorem isW_pair {H:Hp} {v:V} {x y:Int} (h:IsW H v (.pair x y)):∃ p,v=.ref p∧H p=some (.tup [.int x,.int y]):=by
  rcases isW_cases h with ⟨_,z⟩ | ⟨j,e,z⟩ | ⟨p,x,y,e,z,h⟩ <;> cases z
  exact ⟨p,e,h⟩
theorem isW_non {H:Hp} {v:V} (h:IsW H v .non):v=.non:=by
  rcases isW_cases h with ⟨e,z⟩ | ⟨j,e,z⟩ | ⟨p,x,y,e,z,h⟩ <;> cases z
  exact e
theorem m_of {kd:Kd} (hk:HasK kd) {m qual:Str} {st:Stmt} {ps:List Str} {k:Nat} {sp:Sp} (T:Tx K mg a) (F:MthAt K (a.cls kd) m qual st)
    (hb:∀ (kV doc pm:Value) (an:Option Addr) (cdv ct:Value) (us:List Value),us.length=ps.length→bindArgs (PySem.W.fnOf m qual (defArgs st) (defBody st) (defScope st) .none kV doc pm an cdv ct) ⟨us,[]⟩=pure (ps.zip us))
    (h:∀ f fd,Fun K m qual st f fd→FnOk P w K mg base (CXE P w) k f fd ps sp) :
    Cls K (a.cls kd)∧∃ f fd,Meth K (a.cls kd) m f∧Binds K fd ps []∧FnOk P w K mg base (CXE P w) k f fd ps sp:=by
  obtain ⟨f,fd,hf,hi,F⟩:=F.ex
  exact ⟨T.cl kd hk,f,fd,⟨hf,hi,F.kp⟩,F.binds hb,h f fd F⟩
theorem rais_cx {N:List Str} {qual:Str} {scope:Scope} {f:Addr} {cd:Value} {A:Around} {outer:List Env} {s:Shared} {H:Hp} {E:XK} (hk:scope.kind=.function:=by rfl):Rais (cxOf (CXE P w) P w K mg base N qual scope f cd A outer s H E) E :=
  fun _ _ _ _ _ _ _ _ I mx q=>raise_cx I hk mx q
def spCell (K:PySem.W.Frag):Sp:=fun vs H Q _=>∃ (sa:Addr) (ns:List Int) (k:Int),vs=[.ref sa,.int k]∧SqL K H sa (ns.map V.int)∧0≤k∧Q (.int (ns.getD k.toNat 0)) H
theorem sc_law_cell_at:FnScope ["script","k"] ["script","k"] (defScope (top 22)):=⟨rfl,rfl,rfl,by decide +kernel,rfl,by decide +kernel,by decide +kernel⟩
theorem d_cell (T:Tx K mg a) (F:DefAt K mg "_law_cell_at" (top 22)):Dn P w K mg base 1 "_law_cell_at" ["script","k"] (spCell K):=by
  obtain ⟨f,fd,hm,F⟩:=F.ex
  refine ⟨f,fd,hm,F.kp,F.binds fun _ _ _ _ _ _ us hl=>match us,hl with | [_,_],_=>rfl,?_⟩
  refine F.okN sc_law_cell_at (fun vs H Q E h=>?_) (fun cdv A outer s H vs Q E hr h=>?_)
  · obtain ⟨_,_,_,rfl,_⟩:=h
    rfl
  · obtain ⟨sa,ns,k,rfl,hS,h0,q⟩:=h
    refine ⟨_,(pss_cons (ps_if (pt_cmpR op_lt (pv 1) (pe_callB call_len_seq rfl T.b_len bt_len (pa_cons (hs:=st_Name) (pv 0) pa_nil)) (nomark _)) (pss_one (ps_ret (pe_ix ix_list (pv 0) (pv 1) (fun _ _=>rfl)))) pss_nil)
      (pss_one (ps_ret pe_int))),?_⟩
    refine ⟨_,rfl,_,rfl,sa,_,rfl,.inl hS,_,_,rfl,rfl,_,rfl,iteD (fun c=>?_) (fun c=>?_)⟩
    · rw [List.length_map] at c
      have e:atI (ns.map V.int) k=some (V.int (ns.getD k.toNat 0)):=by
        have e1:(ns.map V.int)[k.toNat]?=some (V.int (ns.getD k.toNat 0)):=by
          rw [List.getElem?_map,List.getD_eq_getElem?_getD,List.getElem?_eq_getElem (by omega)]
          rfl
        have:=atI_nat e1
        rw [show ((k.toNat:Nat):Int)=k by omega] at this
        exact this
      exact ⟨_,rfl,_,rfl,sa,_,k,_,rfl,rfl,hS,e,q⟩
    · rw [List.length_map] at c
      have e:ns.getD k.toNat 0=0:=by
        rw [List.getD_eq_getElem?_getD,List.getElem?_eq_none (by omega)]
        rfl
      rw [e] at q
      exact q
def spShare:Sp:=fun vs H Q _=>∃ t b:Int,vs=[.int t,.int b]∧0≤t∧0 < b∧∀ v H',Same H H'→IsW H' v (shareW t b)→Q v H'
theorem sc_law_share:FnScope ["top","below","one","other","kept"] ["top","below"] (defScope (top 24)):=⟨rfl,rfl,rfl,by decide +kernel,rfl,by decide +kernel,by decide +kernel⟩
theorem d_share (hP:P.given.tree=none) (T:Tx K mg a) (F:DefAt K mg "_law_share" (top 24)):Dn P w K mg base 33 "_law_share" ["top","below"] spShare:=by
  obtain ⟨f,fd,hm,F⟩:=F.ex
  refine ⟨f,fd,hm,F.kp,F.binds fun _ _ _ _ _ _ us hl=>match us,hl with | [_,_],_=>rfl,?_⟩
  refine F.okN sc_law_share (fun vs H Q E h=>?_) (fun cdv A outer s H vs Q E hr h=>?_)
  · obtain ⟨_,_,rfl,_⟩:=h
    rfl
  · obtain ⟨t,b,rfl,ht,hb,q⟩:=h
    have hd:(A.deeper (PyProof.Rows.envOfC "_law_share" (defScope (top 24)) s.heap.objs.size f cdv)).depth + 100 < recursionLimit:=by have:=hr.dp; omega
    refine ⟨_,(pss_cons (ps_set (i:=2) sc_law_share.nd rfl (Or.inl rfl) (pv 0))
      (pss_cons (ps_set (i:=3) sc_law_share.nd rfl (Or.inl rfl) (pv 1))
      (pss_cons (ps_while PassesOwn.never (pt_cmpR op_ne (pv 3) pe_int (nomark _)) (pss_cons (ps_set (i:=4) sc_law_share.nd rfl (Or.inl rfl) (pe_op op_mod (pv 2) (pv 3)))
      (pss_cons (ps_set (i:=2) sc_law_share.nd rfl (Or.inl rfl) (pv 3))
      (pss_one (ps_set (i:=3) sc_law_share.nd rfl (Or.inl rfl) (pv 4))))))
      (pss_one (ps_ret (pe_tup (pa_cons (hs:=st_BinOp) (pe_op (op_fdivA hP hd rfl rfl rfl) (pv 0) (pv 2)) (pa_cons (hs:=st_BinOp) (pe_op (op_fdivA hP hd rfl rfl rfl) (pv 1) (pv 2)) pa_nil)))))))),?_⟩
    refine ⟨_,rfl,_,rfl,?_⟩
    refine ⟨fun m σ H'=>∃ x y l,σ=[some (.int t),some (.int b),some (.int x),some (.int y),l]∧H'=H∧0≤y∧m=y.toNat∧Int.gcd x y=Int.gcd t b∧0≤x,⟨_,t,b,_,rfl,rfl,by omega,rfl,rfl,ht⟩,?_⟩
    rintro m σ H' ⟨x,y,l,rfl,rfl,h0,rfl,hg,hx⟩
    refine ⟨_,rfl,rfl,_,rfl,iteNeI (fun c=>?_) (fun c=>?_)⟩
    · have c:0 < y:=by omega
      refine ⟨fun σ' H'=>_,fun _ _ z=>z,?_⟩
      refine ⟨_,rfl,_,rfl,_,_,rfl,rfl,c,_,rfl,_,rfl,?_⟩
      refine ⟨(x % y).toNat,?_,_,_,_,rfl,rfl,Int.emod_nonneg _ (by omega),rfl,?_,by omega⟩
      · have:=Int.emod_lt_of_pos x c
        have:=Int.emod_nonneg x (show y≠0 by omega)
        omega
      · rw [← hg]
        exact gcd_step x y
    · subst c
      rw [Int.gcd_zero_right] at hg
      obtain rfl:x=(Int.gcd t b:Int):=by rw [← hg]; omega
      have gp:=gcd_pos (a:=t) hb
      refine ⟨_,rfl,_,rfl,_,_,rfl,rfl,gp,_,rfl,_,rfl,_,_,rfl,rfl,gp,(by show 2≤sizeLine; decide),fun p np=>?_⟩
      exact q (.ref p) _ (same_one np) upd_same
def spNone:Sp:=fun vs H Q _=>∃ which:Int,vs=[.int which]∧0≤which∧which < 7∧∀ v H',Same H H'→IsW H' v (noneW which)→Q v H'
def spRest:Sp:=fun vs H Q _=>∃ which:Int,vs=[.int which]∧0≤which∧which < 7∧∀ v H',Same H H'→IsW H' v (restW which)→Q v H'
theorem seven {x:Int} (h0:0≤x) (h7:x < 7):x=0∨x=1∨x=2∨x=3∨x=4∨x=5∨x=6:=by omega
theorem sc_law_none:FnScope ["which"] ["which"] (defScope (top 25)):=⟨rfl,rfl,rfl,by decide +kernel,rfl,by decide +kernel,by decide +kernel⟩
theorem d_none (F:DefAt K mg "_law_none" (top 25)):Dn P w K mg base 1 "_law_none" ["which"] spNone:=by
  obtain ⟨f,fd,hm,F⟩:=F.ex
  refine ⟨f,fd,hm,F.kp,F.binds fun _ _ _ _ _ _ us hl=>match us,hl with | [_],_=>rfl,?_⟩
  refine F.okN sc_law_none (fun vs H Q E h=>?_) (fun cdv A outer s H vs Q E hr h=>?_)
  · obtain ⟨_,rfl,_⟩:=h
    rfl
  · obtain ⟨which,rfl,h0,h7,q⟩:=h
    refine ⟨_,(pss_one (ps_ret (pe_ix ix_list (pe_lst (pa_cons (hs:=st_Constant) pe_non (pa_cons (hs:=st_Constant) pe_int (pa_cons (hs:=st_Constant) pe_int (pa_cons (hs:=st_Tuple) (pe_tup (pa_cons (hs:=st_Constant) pe_int (pa_cons (hs:=st_Constant) pe_int pa_nil))) (pa_cons (hs:=st_Tuple) (pe_tup (pa_cons (hs:=st_Constant) pe_int (pa_cons (hs:=st_Constant) pe_int pa_nil))) (pa_cons (hs:=st_Constant) pe_non (pa_cons (hs:=st_Constant) pe_int pa_nil)))))))) (pv 0) (fun _ _=>rfl)))),?_⟩
    refine ⟨(by show 2≤sizeLine; decide),fun p1 n1=>⟨(by show 2≤sizeLine; decide),fun p2 n2=>⟨(by show 7≤sizeLine; decide),fun l nl=>⟨_,rfl,?_⟩⟩⟩⟩
    have s1:Same H (upd H p1 (.tup [.int 0,.int 1])):=same_one n1
    have s2:=s1.trans (same_one (o:=.tup [.int 0,.int 1]) n2)
    have s3:=s2.trans (same_one (o:=.lst [.non,.int 0,.int 0,.ref p1,.ref p2,.non,.int 0]) nl)
    have e2:=same_one (o:=.lst [.non,.int 0,.int 0,.ref p1,.ref p2,.non,.int 0]) nl p2 _ upd_same
    have e1:=same_one (o:=.lst [.non,.int 0,.int 0,.ref p1,.ref p2,.non,.int 0]) nl p1 _ (same_one (o:=.tup [.int 0,.int 1]) n2 p1 _ upd_same)
    rcases seven h0 h7 with rfl | rfl | rfl | rfl | rfl | rfl | rfl
    · exact ⟨l,_,_,.non,rfl,rfl,SqL.of upd_same,rfl,q _ _ s3 True.intro⟩
    · exact ⟨l,_,_,.int 0,rfl,rfl,SqL.of upd_same,rfl,q _ _ s3 rfl⟩
    · exact ⟨l,_,_,.int 0,rfl,rfl,SqL.of upd_same,rfl,q _ _ s3 rfl⟩
    · exact ⟨l,_,_,.ref p1,rfl,rfl,SqL.of upd_same,rfl,q _ _ s3 e1⟩
    · exact ⟨l,_,_,.ref p2,rfl,rfl,SqL.of upd_same,rfl,q _ _ s3 e2⟩
    · exact ⟨l,_,_,.non,rfl,rfl,SqL.of upd_same,rfl,q _ _ s3 True.intro⟩
    · exact ⟨l,_,_,.int 0,rfl,rfl,SqL.of upd_same,rfl,q _ _ s3 rfl⟩
theorem sc_law_rest:FnScope ["which"] ["which"] (defScope (top 26)):=⟨rfl,rfl,rfl,by decide +kernel,rfl,by decide +kernel,by decide +kernel⟩
theorem d_rest (F:DefAt K mg "_law_rest" (top 26)):Dn P w K mg base 1 "_law_rest" ["which"] spRest:=by
  obtain ⟨f,fd,hm,F⟩:=F.ex
  refine ⟨f,fd,hm,F.kp,F.binds fun _ _ _ _ _ _ us hl=>match us,hl with | [_],_=>rfl,?_⟩
  refine F.okN sc_law_rest (fun vs H Q E h=>?_) (fun cdv A outer s H vs Q E hr h=>?_)
  · obtain ⟨_,rfl,_⟩:=h
    rfl
  · obtain ⟨which,rfl,h0,h7,q⟩:=h
    refine ⟨_,(pss_one (ps_ret (pe_ix ix_list (pe_lst (pa_cons (hs:=st_Constant) pe_int (pa_cons (hs:=st_BinOp) (pe_op op_pow pe_int pe_int) (pa_cons (hs:=st_Constant) pe_int (pa_cons (hs:=st_Tuple) (pe_tup (pa_cons (hs:=st_Constant) pe_int (pa_cons (hs:=st_Constant) pe_int pa_nil))) (pa_cons (hs:=st_Tuple) (pe_tup (pa_cons (hs:=st_Constant) pe_int (pa_cons (hs:=st_Constant) pe_int pa_nil))) (pa_cons (hs:=st_Constant) pe_int (pa_cons (hs:=st_Constant) pe_int pa_nil)))))))) (pv 0) (fun _ _=>rfl)))),?_⟩
    refine ⟨_,_,rfl,rfl,⟨by decide,by decide,by decide⟩,(by show 2≤sizeLine; decide),fun p1 n1=>⟨(by show 2≤sizeLine; decide),fun p2 n2=>⟨(by show 7≤sizeLine; decide),fun l nl=>⟨_,rfl,?_⟩⟩⟩⟩
    have s1:Same H (upd H p1 (.tup [.int 1,.int 1])):=same_one n1
    have s2:=s1.trans (same_one (o:=.tup [.int 1,.int 1]) n2)
    have s3:=s2.trans (same_one (o:=.lst [.int 0,.int (10 ^ (9:Int).toNat),.int 1,.ref p1,.ref p2,.int 0,.int 1]) nl)
    have e2:=same_one (o:=.lst [.int 0,.int (10 ^ (9:Int).toNat),.int 1,.ref p1,.ref p2,.int 0,.int 1]) nl p2 _ upd_same
    have e1:=same_one (o:=.lst [.int 0,.int (10 ^ (9:Int).toNat),.int 1,.ref p1,.ref p2,.int 0,.int 1]) nl p1 _ (same_one (o:=.tup [.int 1,.int 1]) n2 p1 _ upd_same)
    rcases seven h0 h7 with rfl | rfl | rfl | rfl | rfl | rfl | rfl
    · exact ⟨l,_,_,.int 0,rfl,rfl,SqL.of upd_same,rfl,q _ _ s3 rfl⟩
    · exact ⟨l,_,_,.int (10 ^ (9:Int).toNat),rfl,rfl,SqL.of upd_same,rfl,q _ _ s3 rfl⟩
    · exact ⟨l,_,_,.int 1,rfl,rfl,SqL.of upd_same,rfl,q _ _ s3 rfl⟩
    · exact ⟨l,_,_,.ref p1,rfl,rfl,SqL.of upd_same,rfl,q _ _ s3 e1⟩
    · exact ⟨l,_,_,.ref p2,rfl,rfl,SqL.of upd_same,rfl,q _ _ s3 e2⟩
    · exact ⟨l,_,_,.int 0,rfl,rfl,SqL.of upd_same,rfl,q _ _ s3 rfl⟩
    · exact ⟨l,_,_,.int 1,rfl,rfl,SqL.of upd_same,rfl,q _ _ s3 rfl⟩
def spWorth:Sp:=fun vs H Q _=>∃ which m cell:Int,vs=[.int which,.int m,.int cell]∧0≤which∧which < 7∧1≤m∧m≤12∧∀ v H',Same H H'→IsW H' v (worthW which m cell)→Q v H'
theorem sc_law_worth:FnScope ["which","m","cell","left","below"] ["which","m","cell"] (defScope (top 29)):=⟨rfl,rfl,rfl,by decide +kernel,rfl,by decide +kernel,by decide +kernel⟩
theorem p6:(0:Int) < 6:=by decide
theorem d_worth (T:Tx K mg a) (D_law_none:Dn P w K mg base 1 "_law_none" ["which"] spNone) (D_law_rest:Dn P w K mg base 1 "_law_rest" ["which"] spRest) (D_law_share:Dn P w K mg base 33 "_law_share" ["top","below"] spShare)
    (F:DefAt K mg "_law_worth" (top 29)):Dn P w K mg base 34 "_law_worth" ["which","m","cell"] spWorth:=by
  obtain ⟨f,fd,hm,F⟩:=F.ex
  refine ⟨f,fd,hm,F.kp,F.binds fun _ _ _ _ _ _ us hl=>match us,hl with | [_,_,_],_=>rfl,?_⟩
  refine F.okN sc_law_worth (fun vs H Q E h=>?_) (fun cdv A outer s H vs Q E hr h=>?_)
  · obtain ⟨_,_,_,rfl,_⟩:=h
    rfl
  · obtain ⟨which,m,cell,rfl,h0,h7,m1,m2,q⟩:=h
    refine ⟨_,(pss_cons (ps_set (i:=3) sc_law_worth.nd rfl (Or.inl rfl) (pe_op op_fdivX (pv 2) pe_int))
      (pss_cons (ps_if (pt_cmpR op_eq (pe_op op_mod (pv 2) pe_int) pe_int (nomark _)) (pss_one (ps_ret (pe_callD D_law_none (hr.mono (by decide)) rfl passE0 (pa_cons (hs:=st_Name) (pv 0) pa_nil)))) pss_nil)
      (pss_cons (ps_if (pt_cmpR op_eq (pe_op op_mod (pv 2) pe_int) pe_int (nomark _)) (pss_one (ps_ret (pe_callD D_law_rest (hr.mono (by decide)) rfl passE0 (pa_cons (hs:=st_Name) (pv 0) pa_nil)))) pss_nil)
      (pss_cons (ps_if (pt_cmpR op_eq (pv 0) pe_int (nomark _)) (pss_one (ps_ret (pe_ifExp (pt_cmpR op_lt (pe_op op_mod (pv 2) pe_int) pe_int (nomark _)) (pe_op op_mod (pv 3) pe_int) (pe_op op_mod (pv 3) (pe_op op_pow pe_int pe_int))))) pss_nil)
      (pss_cons (ps_if (pt_cmpR op_eq (pv 0) pe_int (nomark _)) (pss_one (ps_ret (pe_ifExp (pt_cmpR op_lt (pe_op op_mod (pv 2) pe_int) pe_int (nomark _)) (pe_op op_mod (pv 3) pe_int) (pe_op op_mod (pv 3) (pe_op op_add (pe_op op_pow pe_int pe_int) pe_int))))) pss_nil)
      (pss_cons (ps_if (pt_cmpR op_eq (pv 0) pe_int (nomark _)) (pss_one (ps_ret (pe_ifExp (pt_cmpR op_lt (pe_op op_mod (pv 2) pe_int) pe_int (nomark _)) (pe_op op_sub (pe_op op_mod (pv 3) pe_int) pe_int) (pe_op op_mod (pv 3) (pe_op op_pow pe_int pe_int))))) pss_nil)
      (pss_cons (ps_if (pt_cmpR op_eq (pv 0) pe_int (nomark _)) (pss_cons (ps_set (i:=4) sc_law_worth.nd rfl (Or.inl rfl) (pe_op op_add pe_int (pe_op op_mod (pe_op op_fdivX (pv 3) pe_int) pe_int)))
      (pss_one (ps_ret (pe_callD D_law_share (hr.mono (by decide)) rfl passE0 (pa_cons (hs:=st_BinOp) (pe_op op_mod (pv 3) (pe_op op_add (pv 4) pe_int)) (pa_cons (hs:=st_Name) (pv 4) pa_nil)))))) pss_nil)
      (pss_cons (ps_if (pt_cmpR op_eq (pv 0) pe_int (nomark _)) (pss_one (ps_ret (pe_callD D_law_share (hr.mono (by decide)) rfl passE0 (pa_cons (hs:=st_BinOp) (pe_op op_mod (pv 3) pe_int) (pa_cons (hs:=st_BinOp) (pe_op op_add pe_int (pe_op op_mod (pe_op op_fdivX (pv 3) pe_int) pe_int)) pa_nil))))) pss_nil)
      (pss_cons (ps_if (pt_cmpR op_eq (pv 0) pe_int (nomark _)) (pss_one (ps_ret (pe_ifExp (pt_cmpR op_lt (pe_op op_mod (pv 2) pe_int) pe_int (nomark _)) (pe_op op_mod (pv 3) pe_int) (pe_op op_mod (pv 3) (pe_op op_pow pe_int pe_int))))) pss_nil)
      (pss_one (ps_ret (pe_op op_mod (pv 3) (pe_op op_shl pe_int (pv 1)))))))))))))),?_⟩
    have qi:∀ i:Int,worthW which m cell=.int i→Q (.int i) H:=fun i e=>q _ _ (Same.refl H) (by rw [e]; exact rfl)
    refine ⟨_,rfl,_,_,rfl,rfl,⟨by decide,by decide⟩,?_⟩
    refine ⟨_,rfl,_,_,rfl,rfl,p6,rfl,_,rfl,iteEqI (fun e=>?_) (fun c1=>?_)⟩
    · exact ⟨_,rfl,which,rfl,h0,h7,fun v H' s' w'=>q v H' s' (by rw [show worthW which m cell=noneW which by simp [worthW,e]]; exact w')⟩
    refine ⟨_,rfl,_,_,rfl,rfl,p6,rfl,_,rfl,iteEqI (fun e=>?_) (fun c2=>?_)⟩
    · exact ⟨_,rfl,which,rfl,h0,h7,fun v H' s' w'=>q v H' s' (by rw [show worthW which m cell=restW which by simp [worthW,e]]; exact w')⟩
    refine ⟨_,rfl,rfl,_,rfl,iteEqI (fun e=>?_) (fun n0=>?_)⟩
    · refine ⟨_,rfl,_,_,rfl,rfl,p6,_,_,rfl,rfl,_,rfl,iteD (fun c=>?_) (fun c=>?_)⟩
      · exact ⟨_,rfl,_,_,rfl,rfl,(by show (0:Int) < 20; decide),qi _ (by simp [worthW,c1,c2,e,c])⟩
      · exact ⟨_,rfl,_,_,rfl,rfl,⟨by decide,by decide,by decide⟩,_,_,rfl,rfl,(by show (0:Int) < 10 ^ 30; decide),qi _ (by simp [worthW,c1,c2,e,c])⟩
    refine ⟨_,rfl,rfl,_,rfl,iteEqI (fun e=>?_) (fun n1=>?_)⟩
    · refine ⟨_,rfl,_,_,rfl,rfl,p6,_,_,rfl,rfl,_,rfl,iteD (fun c=>?_) (fun c=>?_)⟩
      · exact ⟨_,rfl,_,_,rfl,rfl,(by show (0:Int) < 20; decide),qi _ (by simp [worthW,c1,c2,e,c])⟩
      · exact ⟨_,rfl,_,_,rfl,rfl,⟨by decide,by decide,by decide⟩,_,_,rfl,rfl,_,_,rfl,rfl,(by show (0:Int) < 10 ^ 9 + 1; decide),qi _ (by simp [worthW,c1,c2,e,c])⟩
    refine ⟨_,rfl,rfl,_,rfl,iteEqI (fun e=>?_) (fun n2=>?_)⟩
    · refine ⟨_,rfl,_,_,rfl,rfl,p6,_,_,rfl,rfl,_,rfl,iteD (fun c=>?_) (fun c=>?_)⟩
      · exact ⟨_,rfl,_,_,rfl,rfl,(by show (0:Int) < 5; decide),_,_,rfl,rfl,qi _ (by simp [worthW,c1,c2,e,c])⟩
      · exact ⟨_,rfl,_,_,rfl,rfl,⟨by decide,by decide,by decide⟩,_,_,rfl,rfl,(by show (0:Int) < 10 ^ 30; decide),qi _ (by simp [worthW,c1,c2,e,c])⟩
    refine ⟨_,rfl,rfl,_,rfl,iteEqI (fun e=>?_) (fun n3=>?_)⟩
    · refine ⟨_,rfl,_,_,rfl,rfl,⟨by decide,by decide⟩,_,_,rfl,rfl,(by show (0:Int) < 12; decide),_,_,rfl,rfl,?_⟩
      have b1:0≤cell / 6 / 7 % 12:=Int.emod_nonneg _ (by decide)
      have b2:cell / 6 / 7 % 12 < 12:=Int.emod_lt_of_pos _ (by decide)
      refine ⟨_,rfl,_,rfl,_,_,rfl,rfl,_,_,rfl,rfl,(by show (0:Int) < 1 + cell / 6 / 7 % 12 + 1; omega),_,rfl,_,_,rfl,Int.emod_nonneg _ (by omega),by omega,fun v H' s' w'=>q v H' s' ?_⟩
      rw [show worthW which m cell=shareW (cell / 6 % (1 + cell / 6 / 7 % 12 + 1)) (1 + cell / 6 / 7 % 12) by simp [worthW,c1,c2,e]]
      exact w'
    refine ⟨_,rfl,rfl,_,rfl,iteEqI (fun e=>?_) (fun n4=>?_)⟩
    · have b1:0≤cell / 6 / 9 % 12:=Int.emod_nonneg _ (by decide)
      have b2:cell / 6 / 9 % 12 < 12:=Int.emod_lt_of_pos _ (by decide)
      refine ⟨_,rfl,_,_,rfl,rfl,(by show (0:Int) < 9; decide),_,rfl,_,_,rfl,rfl,⟨by decide,by decide⟩,_,_,rfl,rfl,(by show (0:Int) < 12; decide),_,_,rfl,rfl,_,_,rfl,Int.emod_nonneg _ (by decide),by omega,fun v H' s' w'=>q v H' s' ?_⟩
      rw [show worthW which m cell=shareW (cell / 6 % 9) (1 + cell / 6 / 9 % 12) by simp [worthW,c1,c2,e]]
      exact w'
    refine ⟨_,rfl,rfl,_,rfl,iteEqI (fun e=>?_) (fun n5=>?_)⟩
    · refine ⟨_,rfl,_,_,rfl,rfl,p6,_,_,rfl,rfl,_,rfl,iteD (fun c=>?_) (fun c=>?_)⟩
      · exact ⟨_,rfl,_,_,rfl,rfl,(by show (0:Int) < 16; decide),qi _ (by simp [worthW,c1,c2,e,c])⟩
      · exact ⟨_,rfl,_,_,rfl,rfl,⟨by decide,by decide,by decide⟩,_,_,rfl,rfl,(by show (0:Int) < 10 ^ 30; decide),qi _ (by simp [worthW,c1,c2,e,c])⟩
    have p:(0:Int) < 1 * 2 ^ m.toNat:=by rw [Int.one_mul]; exact Int.pow_pos (by decide)
    exact ⟨_,rfl,_,rfl,_,_,rfl,rfl,⟨by omega,by omega,by decide⟩,_,_,rfl,rfl,p,qi _ (by simp [worthW,c1,c2,n0,n1,n2,n3,n4,n5])⟩
def spLaw (K:PySem.W.Frag):Sp:=fun vs H Q _=>∃ (sa:Addr) (ns:List Int),vs=[.ref sa]∧SqL K H sa (ns.map V.int)∧ns.length≤63∧∀ H',Q (.bl true) H'
end
end K10
namespace K10
open PySem L2 Ws
seal PE PT PW PA PC PS PSs PG PGs PI PO
section
variable {P : Program} {w : World} {K : PySem.W.Frag} {mg : Str → Option Value} {base : Heap} {a : Adr}
theorem kfs_no (kd:Kd) {x:Str} (h:(x == ("m":Str))=false):(kfs kd).lookup x=none:=by
  cases kd <;> first | rfl | (simp only [kfs,List.lookup,h])
theorem counted_is {H:Hp} {v:V} {x:Car .counted} (h:IsW H v (enc .counted x)):∃ i:Int,v=.int i∧enc .counted x=.int i∧((i=-1∧x=none)∨∃ n:Nat,i=n∧x=some n):=by
  rcases x with _ | n
  · exact ⟨_,isW_int h,rfl,.inl ⟨rfl,rfl⟩⟩
  · exact ⟨_,isW_int h,rfl,.inr ⟨n,rfl,rfl⟩⟩
theorem counted_zero {x y:Option Nat} {i:Int} (hx:(i=-1∧x=none)∨∃ n:Nat,i=n∧x=some n) (z:i=0):enc .counted (oMul x y)=.int 0:=by
  obtain ⟨n,e,rfl⟩:=hx.resolve_left (fun e=>by omega)
  obtain rfl:n=0:=by omega
  rw [oMul_zero]; rfl
theorem counted_endless {x y:Option Nat} {i j:Int} (hx:(i=-1∧x=none)∨∃ n:Nat,i=n∧x=some n) (hy:(j=-1∧y=none)∨∃ n:Nat,j=n∧y=some n) (zi:i≠0) (zj:j≠0) (h:i=-1∨j=-1) :
    enc .counted (oMul x y)=.int (-1):=by
  rcases hx with ⟨_,rfl⟩ | ⟨n,e,rfl⟩
  · rcases hy with ⟨_,rfl⟩ | ⟨k,e',rfl⟩
    · rfl
    · obtain ⟨k,rfl⟩:∃ l,k=l + 1:=⟨k - 1,by omega⟩
      rfl
  · rcases hy with ⟨_,rfl⟩ | ⟨k,e',rfl⟩
    · obtain ⟨n,rfl⟩:∃ l,n=l + 1:=⟨n - 1,by omega⟩
      rfl
    · omega
theorem counted_prod {x y:Option Nat} {i j:Int} (hx:(i=-1∧x=none)∨∃ n:Nat,i=n∧x=some n) (hy:(j=-1∧y=none)∨∃ n:Nat,j=n∧y=some n) (zi:i≠-1) (zj:j≠-1) :
    enc .counted (oMul x y)=.int (i * j):=by
  obtain ⟨n,rfl,rfl⟩:=hx.resolve_left (fun e=>zi e.1)
  obtain ⟨k,rfl,rfl⟩:=hy.resolve_left (fun e=>zj e.1)
  rw [oMul_some]
  show Wd.int ((n * k:Nat):Int)=_
  rw [Int.natCast_mul]
theorem cpow_nat {r b:Nat} (h:r < 2 ^ 12) (hb:b≤12):CPow (r:Int) (b:Int):=by
  have:(2:Nat) ^ 12 < 2 ^ 64:=by decide
  exact ⟨by omega,by omega,by rw [Int.natAbs_natCast]; omega⟩
theorem cpow_one {b:Nat} (hb:b≤12):CPow 1 (b:Int):=⟨by omega,by omega,by decide⟩
end
end K10
namespace K10
open PySem L2 Ws
seal PE PT PW PA PC PS PSs PG PGs PI PO
section
variable {P : Program} {w : World} {K : PySem.W.Frag} {mg : Str → Option Value} {base : Heap} {a : Adr}
def spZero (a:Adr) (kd:Kd):Sp:=fun vs H Q _=>∃ (p:Addr) (ok:KdOk kd),vs=[.ref p]∧KindAt a H p kd∧∀ v H',Same H H'→IsW H' v (enc kd (ks kd ok).zero)→Q v H'
def spOne (a:Adr) (kd:Kd):Sp:=fun vs H Q _=>∃ (p:Addr) (ok:KdOk kd),vs=[.ref p]∧KindAt a H p kd∧∀ v H',Same H H'→IsW H' v (enc kd (ks kd ok).one)→Q v H'
theorem sc_Counted_none:FnScope ["self"] ["self"] (defScope (inClass (top 8) 0)):=⟨rfl,rfl,rfl,by decide +kernel,rfl,by decide +kernel,by decide +kernel⟩
structure At_none (K:PySem.W.Frag) (a:Adr):Prop where
  fCounted:MthAt K a.cCounted "none" "Counted.none" (inClass (top 8) 0)
theorem sc_Counted_rest:FnScope ["self"] ["self"] (defScope (inClass (top 8) 1)):=⟨rfl,rfl,rfl,by decide +kernel,rfl,by decide +kernel,by decide +kernel⟩
structure At_rest (K:PySem.W.Frag) (a:Adr):Prop where
  fCounted:MthAt K a.cCounted "rest" "Counted.rest" (inClass (top 8) 1)
theorem len_zero {kd:Kd} {vs:List V} {H:Hp} {Q:VK} {E:XK} (h:spZero a kd vs H Q E):vs.length=1:=by
  obtain ⟨_,_,rfl,_⟩:=h
  rfl
theorem len_one {kd:Kd} {vs:List V} {H:Hp} {Q:VK} {E:XK} (h:spOne a kd vs H Q E):vs.length=1:=by
  obtain ⟨_,_,rfl,_⟩:=h
  rfl
theorem v_none (T:Tx K mg a) (F:At_none K a):Mth P w K mg base 1 a.cl "none" ["self"] (fun i=>spZero a i.1):=by
  refine ⟨fun ⟨kd,hk⟩=>?_⟩
  cases kd with
  | fewest=>exact hk.elim
  | widest=>exact hk.elim
  | counted =>
    refine m_of hk T F.fCounted (fun _ _ _ _ _ _ us hl=>match us,hl with | [_],_=>rfl) fun f fd F=>F.okN sc_Counted_none (fun _ _ _ _=>len_zero) (fun cdv A outer s H vs Q E hr h=>?_)
    obtain ⟨p,ok,rfl,_,q⟩:=h
    exact ⟨_,(pss_one (ps_ret pe_int)),q _ _ (Same.refl H) rfl⟩
  | likeliest=>exact hk.elim
  | chances=>exact hk.elim
  | musts=>exact hk.elim
  | rests m=>exact hk.elim
theorem v_rest (T:Tx K mg a) (F:At_rest K a):Mth P w K mg base 1 a.cl "rest" ["self"] (fun i=>spOne a i.1):=by
  refine ⟨fun ⟨kd,hk⟩=>?_⟩
  cases kd with
  | fewest=>exact hk.elim
  | widest=>exact hk.elim
  | counted =>
    refine m_of hk T F.fCounted (fun _ _ _ _ _ _ us hl=>match us,hl with | [_],_=>rfl) fun f fd F=>F.okN sc_Counted_rest (fun _ _ _ _=>len_one) (fun cdv A outer s H vs Q E hr h=>?_)
    obtain ⟨p,ok,rfl,_,q⟩:=h
    exact ⟨_,(pss_one (ps_ret pe_int)),q _ _ (Same.refl H) rfl⟩
  | likeliest=>exact hk.elim
  | chances=>exact hk.elim
  | musts=>exact hk.elim
  | rests m=>exact hk.elim
def spAdd (a:Adr) (kd:Kd):Sp:=fun vs H Q _=>∃ (p:Addr) (v1 v2:V) (ok:KdOk kd) (x y:Car kd),vs=[.ref p,v1,v2]∧KindAt a H p kd∧IsW H v1 (enc kd x)∧IsW H v2 (enc kd y)∧Sm Big (enc kd x)∧Sm Big (enc kd y) ∧
  ∀ v H',Same H H'→IsW H' v (enc kd ((ks kd ok).add x y))→Q v H'
def spMul (a:Adr) (kd:Kd):Sp:=fun vs H Q _=>∃ (p:Addr) (v1 v2:V) (ok:KdOk kd) (x y:Car kd),vs=[.ref p,v1,v2]∧KindAt a H p kd∧IsW H v1 (enc kd x)∧IsW H v2 (enc kd y)∧Sm Big (enc kd x)∧Sm Big (enc kd y) ∧
  ∀ v H',Same H H'→IsW H' v (enc kd ((ks kd ok).mul x y))→Q v H'
theorem len_add {kd:Kd} {vs:List V} {H:Hp} {Q:VK} {E:XK} (h:spAdd a kd vs H Q E):vs.length=3:=by
  obtain ⟨_,_,_,_,_,_,rfl,_⟩:=h
  rfl
theorem len_mul {kd:Kd} {vs:List V} {H:Hp} {Q:VK} {E:XK} (h:spMul a kd vs H Q E):vs.length=3:=by
  obtain ⟨_,_,_,_,_,_,rfl,_⟩:=h
  rfl
theorem sc_Counted_together:FnScope ["self","one","other"] ["self","one","other"] (defScope (inClass (top 8) 3)):=⟨rfl,rfl,rfl,by decide +kernel,rfl,by decide +kernel,by decide +kernel⟩
structure At_together (K:PySem.W.Frag) (a:Adr):Prop where
  fCounted:MthAt K a.cCounted "together" "Counted.together" (inClass (top 8) 3)
theorem sc_Counted_behind:FnScope ["self","one","other"] ["self","one","other"] (defScope (inClass (top 8) 4)):=⟨rfl,rfl,rfl,by decide +kernel,rfl,by decide +kernel,by decide +kernel⟩
structure At_behind (K:PySem.W.Frag) (a:Adr):Prop where
  fCounted:MthAt K a.cCounted "behind" "Counted.behind" (inClass (top 8) 4)
theorem min_if (i j:Nat):(if (j:Int) < i then (j:Int) else i)=((min i j:Nat):Int):=by split <;> omega
theorem max_if (i j:Nat):(if (j:Int) > i then (j:Int) else i)=((max i j:Nat):Int):=by split <;> omega
theorem v_together (T:Tx K mg a) (F:At_together K a) :
    Mth P w K mg base 35 a.cl "together" ["self","one","other"] (fun i=>spAdd a i.1):=by
  refine ⟨fun ⟨kd,hk⟩=>?_⟩
  cases kd with
  | fewest=>exact hk.elim
  | widest=>exact hk.elim
  | counted =>
    refine m_of hk T F.fCounted (fun _ _ _ _ _ _ us hl=>match us,hl with | [_,_,_],_=>rfl) fun f fd F=>F.okN sc_Counted_together (fun _ _ _ _=>len_add) (fun cdv A outer s H vs Q E hr h=>?_)
    obtain ⟨p,v1,v2,ok,x,y,rfl,_,h1,h2,s1,s2,q⟩:=h
    refine ⟨_,(pss_cons (ps_if (PW.pt (pw_or (pt_cmpR op_eq (pv 1) (pe_un un_neg pe_int) (nomark _)) (pw_or1 (pt_cmpR op_eq (pv 2) (pe_un un_neg pe_int) (nomark _))))) (pss_one (ps_ret (pe_un un_neg pe_int))) pss_nil)
      (pss_one (ps_ret (pe_op op_add (pv 1) (pv 2))))),?_⟩
    rcases x with _ | i
    · obtain rfl:=isW_int h1
      exact ⟨_,rfl,_,rfl,rfl,_,rfl,iteT (iteT ⟨_,rfl,q _ _ (Same.refl H) (by cases y <;> rfl)⟩)⟩
    · obtain rfl:=isW_int h1
      refine ⟨_,rfl,_,rfl,rfl,_,rfl,iteEqI (fun z=>by omega) (fun _=>?_)⟩
      rcases y with _ | j
      · obtain rfl:=isW_int h2
        exact ⟨_,rfl,_,rfl,rfl,_,rfl,iteT ⟨_,rfl,q _ _ (Same.refl H) rfl⟩⟩
      · obtain rfl:=isW_int h2
        refine ⟨_,rfl,_,rfl,rfl,_,rfl,iteEqI (fun z=>by omega) (fun _=>?_)⟩
        exact ⟨_,rfl,_,rfl,_,_,rfl,rfl,q _ _ (Same.refl H) (by show (i:Int) + j=((i + j:Nat):Int); omega)⟩
  | likeliest=>exact hk.elim
  | chances=>exact hk.elim
  | musts=>exact hk.elim
  | rests m=>exact hk.elim
theorem pow12 {m n:Nat} (h:m≤12) (hn:n < 2 ^ m):n < 2 ^ 12:=Nat.lt_of_lt_of_le hn (Nat.pow_le_pow_right (by decide) h)
theorem v_behind (T:Tx K mg a) (F:At_behind K a) :
    Mth P w K mg base 35 a.cl "behind" ["self","one","other"] (fun i=>spMul a i.1):=by
  refine ⟨fun ⟨kd,hk⟩=>?_⟩
  cases kd with
  | fewest=>exact hk.elim
  | widest=>exact hk.elim
  | counted =>
    refine m_of hk T F.fCounted (fun _ _ _ _ _ _ us hl=>match us,hl with | [_,_,_],_=>rfl) fun f fd F=>F.okN sc_Counted_behind (fun _ _ _ _=>len_mul) (fun cdv A outer s H vs Q E hr h=>?_)
    obtain ⟨p,v1,v2,ok,x,y,rfl,_,h1,h2,s1,s2,q⟩:=h
    refine ⟨_,(pss_cons (ps_if (PW.pt (pw_or (pt_cmpR op_eq (pv 1) pe_int (nomark _)) (pw_or1 (pt_cmpR op_eq (pv 2) pe_int (nomark _))))) (pss_one (ps_ret pe_int)) pss_nil)
      (pss_cons (ps_if (PW.pt (pw_or (pt_cmpR op_eq (pv 1) (pe_un un_neg pe_int) (nomark _)) (pw_or1 (pt_cmpR op_eq (pv 2) (pe_un un_neg pe_int) (nomark _))))) (pss_one (ps_ret (pe_un un_neg pe_int))) pss_nil)
      (pss_one (ps_ret (pe_op op_mulX (pv 1) (pv 2)))))),?_⟩
    obtain ⟨i,rfl,e1,hx⟩:=counted_is h1
    obtain ⟨j,rfl,e2,hy⟩:=counted_is h2
    rw [e1] at s1
    rw [e2] at s2
    have fin:∀ k:Int,enc .counted (oMul x y)=.int k→Q (.int k) H:=fun k e=>q _ _ (Same.refl H) (by show IsW H _ (enc .counted (oMul x y)); rw [e]; exact rfl)
    refine ⟨_,rfl,rfl,_,rfl,iteEqI (fun z=>?_) (fun zi=>?_)⟩
    · exact iteT (fin 0 (counted_zero hx z))
    refine ⟨_,rfl,rfl,_,rfl,iteEqI (fun z=>?_) (fun zj=>?_)⟩
    · exact fin 0 ((congrArg (enc .counted) (oMul_comm x y)).trans (counted_zero hy z))
    refine ⟨_,rfl,_,rfl,rfl,_,rfl,iteEqI (fun z=>?_) (fun z1=>?_)⟩
    · exact iteT ⟨_,rfl,fin (-1) (counted_endless hx hy zi zj (.inl z))⟩
    refine ⟨_,rfl,_,rfl,rfl,_,rfl,iteEqI (fun z=>?_) (fun z2=>?_)⟩
    · exact ⟨_,rfl,fin (-1) (counted_endless hx hy zi zj (.inr z))⟩
    · exact ⟨_,rfl,_,rfl,_,_,rfl,rfl,big_mul s1 s2,fin _ (counted_prod hx hy z1 z2)⟩
  | likeliest=>exact hk.elim
  | chances=>exact hk.elim
  | musts=>exact hk.elim
  | rests m=>exact hk.elim
end
end K10
namespace K10
open PySem L2 Ws
seal PE PT PW PA PC PS PSs PG PGs PI PO
section
variable {P : Program} {w : World} {K : PySem.W.Frag} {mg : Str → Option Value} {base : Heap} {a : Adr}
def spStar (a:Adr) (kd:Kd):Sp:=fun vs H Q E=>∃ (p:Addr) (v:V) (ok:KdOk kd) (x:Car kd),vs=[.ref p,v]∧KindAt a H p kd∧IsW H v (enc kd x)∧Sm Big (enc kd x) ∧
  (∀ s,(ks kd ok).star x=some s→∀ v' H',Same H H'→IsW H' v' (enc kd s)→Q v' H')∧((ks kd ok).star x=none→∀ H',Same H H'→False)
theorem len_star {kd:Kd} {vs:List V} {H:Hp} {Q:VK} {E:XK} (h:spStar a kd vs H Q E):vs.length=2:=by
  obtain ⟨_,_,_,_,rfl,_⟩:=h
  rfl
theorem sc_Counted_rounds:FnScope ["self","one"] ["self","one"] (defScope (inClass (top 8) 5)):=⟨rfl,rfl,rfl,by decide +kernel,rfl,by decide +kernel,by decide +kernel⟩
structure At_rounds (K:PySem.W.Frag) (a:Adr):Prop where
  fCounted:MthAt K a.cCounted "rounds" "Counted.rounds" (inClass (top 8) 5)
theorem v_rounds (T:Tx K mg a) (V_none:Mth P w K mg base 1 a.cl "none" ["self"] (fun i=>spZero a i.1)) (V_rest:Mth P w K mg base 1 a.cl "rest" ["self"] (fun i=>spOne a i.1))
    (V_together:Mth P w K mg base 35 a.cl "together" ["self","one","other"] (fun i=>spAdd a i.1)) (V_behind:Mth P w K mg base 35 a.cl "behind" ["self","one","other"] (fun i=>spMul a i.1))
    (F:At_rounds K a):Mth P w K mg base 36 a.cl "rounds" ["self","one"] (fun i=>spStar a i.1):=by
  refine ⟨fun ⟨kd,hk⟩=>?_⟩
  cases kd with
  | fewest=>exact hk.elim
  | widest=>exact hk.elim
  | counted =>
    refine m_of hk T F.fCounted (fun _ _ _ _ _ _ us hl=>match us,hl with | [_,_],_=>rfl) fun f fd F=>F.okN sc_Counted_rounds (fun _ _ _ _=>len_star) (fun cdv A outer s H vs Q E hr h=>?_)
    obtain ⟨p,v,ok,x,rfl,⟨dx,hp⟩,h1,s1,q,_⟩:=h
    refine ⟨_,(pss_cons (ps_if (pt_cmpR op_eq (pv 1) pe_int (nomark _)) (pss_one (ps_ret pe_int)) pss_nil)
      (pss_one (ps_ret (pe_un un_neg pe_int)))),?_⟩
    rcases x with _ | _ | n
    · obtain rfl:=isW_int h1
      exact ⟨_,rfl,rfl,_,rfl,iteEqI (fun z=>by omega) (fun _=>⟨_,rfl,q _ rfl _ _ (Same.refl H) rfl⟩)⟩
    · obtain rfl:=isW_int h1
      exact ⟨_,rfl,rfl,_,rfl,iteEqI (fun _=>q _ rfl _ _ (Same.refl H) rfl) (fun z=>absurd rfl z)⟩
    · obtain rfl:=isW_int h1
      exact ⟨_,rfl,rfl,_,rfl,iteEqI (fun z=>by omega) (fun _=>⟨_,rfl,q _ rfl _ _ (Same.refl H) rfl⟩)⟩
  | likeliest=>exact hk.elim
  | chances=>exact hk.elim
  | musts=>exact hk.elim
  | rests m=>exact hk.elim
end
end K10
namespace K10
open PySem L2 Ws
seal PE PT PW PA PC PS PSs PG PGs PI PO
section
variable {P : Program} {w : World} {K : PySem.W.Frag} {mg : Str → Option Value} {base : Heap} {a : Adr}
def spIsFrom:Sp:=fun vs H Q _=>∃ v w l,vs=[v,.int l]∧IsW H v w∧Q (.bl (isFrom w l)) H
theorem sc_is_from:FnScope ["some","least"] ["some","least"] (defScope (top 6)):=⟨rfl,rfl,rfl,by decide +kernel,rfl,by decide +kernel,by decide +kernel⟩
theorem d_is_from (T:Tx K mg a) (F:DefAt K mg "is_from" (top 6)):Dn P w K mg base 1 "is_from" ["some","least"] spIsFrom:=by
  obtain ⟨f,fd,hm,F⟩:=F.ex
  refine ⟨f,fd,hm,F.kp,F.binds fun _ _ _ _ _ _ us hl=>match us,hl with | [_,_],_=>rfl,?_⟩
  refine F.okN sc_is_from (fun vs H Q E h=>?_) (fun cdv A outer s H vs Q E hr h=>?_)
  · obtain ⟨_,_,_,rfl,_⟩:=h
    rfl
  · obtain ⟨v,w',l,rfl,hw,q⟩:=h
    refine ⟨_,(pss_one (ps_ret (pe_and (pe_callB call_isinst rfl T.b_isinstance bt_isinstance (pa_cons (hs:=st_Name) (pv 0) (pa_cons (hs:=st_Name) (pe_bltn (v:=V.ty "int") rfl T.b_int bt_int rfl) pa_nil))) (pe_one (pe_cmpR op_ge (pv 0) (pv 1) (nomark _)))))),?_⟩
    rcases isW_cases hw with ⟨rfl,rfl⟩ | ⟨i,rfl,rfl⟩ | ⟨p,x,y,rfl,rfl,hp⟩
    · exact ⟨_,rfl,_,_,_,_,_,rfl,rfl,.of .non,kit_nI,_,rfl,iteF q⟩
    · exact ⟨_,rfl,_,_,_,_,_,rfl,rfl,.of (.int _),kit_iI,_,rfl,iteT ⟨_,rfl,_,rfl,_,_,rfl,rfl,q⟩⟩
    · exact ⟨_,rfl,_,_,_,_,_,rfl,rfl,.of (.tup hp),kit_tI,_,rfl,iteF q⟩
def spIsWorth (a:Adr) (kd:Kd):Sp:=fun vs H Q _=>∃ p v w,vs=[.ref p,v]∧KindAt a H p kd∧KdOk kd∧IsW H v w∧Q (.bl (isWorth kd w)) H
theorem sp_len {kd:Kd} {vs:List V} {H:Hp} {Q:VK} {E:XK} (h:spIsWorth a kd vs H Q E):vs.length=2:=by
  obtain ⟨_,_,_,rfl,_⟩:=h
  rfl
theorem sc_Counted_is_worth:FnScope ["self","some"] ["self","some"] (defScope (inClass (top 8) 2)):=⟨rfl,rfl,rfl,by decide +kernel,rfl,by decide +kernel,by decide +kernel⟩
structure IsWorthAt (K:PySem.W.Frag) (a:Adr):Prop where
  f2:MthAt K a.cCounted "is_worth" "Counted.is_worth" (inClass (top 8) 2)
theorem v_is_worth (T:Tx K mg a) (D_is_from:Dn P w K mg base 1 "is_from" ["some","least"] spIsFrom) (F:IsWorthAt K a) :
    Mth P w K mg base 3 a.cl "is_worth" ["self","some"] (fun i=>spIsWorth a i.1):=by
  refine ⟨fun ⟨kd,hk⟩=>?_⟩
  cases kd with
  | fewest=>exact hk.elim
  | widest=>exact hk.elim
  | counted =>
    refine m_of hk T F.f2 (fun _ _ _ _ _ _ us hl=>match us,hl with | [_,_],_=>rfl) fun f fd F=>?_
    refine F.okN sc_Counted_is_worth (fun _ _ _ _=>sp_len) (fun cdv A outer s H vs Q E hr h=>?_)
    obtain ⟨p,v,w',rfl,_,ok,hw,q⟩:=h
    exact ⟨_,(pss_one (ps_ret (pe_callD D_is_from (hr.mono (by decide)) rfl passE0 (pa_cons (hs:=st_Name) (pv 1) (pa_cons (hs:=st_UnaryOp) (pe_un un_neg pe_int) pa_nil))))),⟨_,rfl,_,rfl,v,w',_,rfl,hw,q⟩⟩
  | likeliest=>exact hk.elim
  | chances=>exact hk.elim
  | musts=>exact hk.elim
  | rests m=>exact hk.elim
end
end K10
namespace K10
open PySem L2 Ws
seal PE PT PW PA PC PS PSs PG PGs PI PO PJ PTs
def IsRoad (H:Hp) (v:V) (r:Road):Prop:=∃ p wv,v=.ref p∧H p=some (.tup [.int r.f,.int r.t,wv])∧IsW H wv r.w
theorem IsRoad.same {H H':Hp} (e:Same H H') {v:V} {r:Road}:IsRoad H v r→IsRoad H' v r:=fun ⟨p,wv,e1,e2,e3⟩=>⟨p,wv,e1,e _ _ e2,e3.same e⟩
abbrev IsRoads (H:Hp):List V→List Road→Prop:=Paired (IsRoad H)
theorem IsRoads.same {H H':Hp} (e:Same H H') {vs:List V} {rs:List Road} (h:IsRoads H vs rs):IsRoads H' vs rs:=Paired.mapP h fun _ _ q=>q.same e
abbrev IsWs (H:Hp):List V→List Wd→Prop:=Paired (IsW H)
theorem IsWs.same {H H':Hp} (e:Same H H') {vs:List V} {rs:List Wd} (h:IsWs H vs rs):IsWs H' vs rs:=Paired.mapP h fun _ _ q=>q.same e
theorem pget {α β:Type} {F:α→β→Prop}:∀ {xs:List α} {ys:List β} {i:Nat} {x:α},Paired F xs ys→xs[i]?=some x→∃ y,ys[i]?=some y∧F x y
  | _ :: _,_ :: _,0,_,.cons h _,e=>⟨_,rfl,by simp at e; subst e; exact h⟩
  | _ :: _,_ :: _,i + 1,_,.cons _ t,e=>by
    obtain ⟨y,e',h⟩:=pget (i:=i) t (by simpa using e)
    exact ⟨y,by simpa using e',h⟩
structure NetIs (a:Adr) (H:Hp) (p:Addr) (kd:Kd) (n:Nat) (kp tp:Addr) (vs:List V) (rs:List Road):Prop where
  ins:∃ dx,H p=some (.ins a.cNet dx [("own_kind",.ref kp),("how_many",.int (n:Int)),("own_roads",.ref tp)])
  kind:KindAt a H kp kd
  tup:H tp=some (.tup vs)
  rds:IsRoads H vs rs
theorem KindAt.same {a:Adr} {H H':Hp} {p:Addr} {kd:Kd} (e:Same H H'):KindAt a H p kd→KindAt a H' p kd:=fun ⟨dx,h⟩=>⟨dx,e _ _ h⟩
theorem NetIs.same {a:Adr} {H H':Hp} {p:Addr} {kd:Kd} {n:Nat} {kp tp:Addr} {vs:List V} {rs:List Road} (e:Same H H') (h:NetIs a H p kd n kp tp vs rs):NetIs a H' p kd n kp tp vs rs :=
  ⟨let ⟨dx,q⟩:=h.ins; ⟨dx,e _ _ q⟩,h.kind.same e,e _ _ h.tup,h.rds.same e⟩
theorem lines {n:Nat} (h:n≤1000):n < sizeLine:=by rw [sizeLine_eq]; omega
section
variable {P : Program} {w : World} {K : PySem.W.Frag} {mg : Str → Option Value} {base : Heap} {a : Adr}
def spNums (a:Adr):Sp:=fun vs H Q E=>∃ (n:Int) (rl:Addr) (xs:List V),vs=[.int n,.ref rl]∧H rl=some (.lst xs)∧n.natAbs.log2 < 1920∧(numsOk n xs.length=true→Q .non H)∧(numsOk n xs.length=false→E (.ref a.cNoNet) none H)
theorem sc_check_numbers:FnScope ["places","roads"] ["places","roads"] (defScope (top 12)):=⟨rfl,rfl,rfl,by decide +kernel,rfl,by decide +kernel,by decide +kernel⟩
theorem d_check_numbers (T:Tx K mg a) (F:DefAt K mg "check_numbers" (top 12)):Dn P w K mg base 1 "check_numbers" ["places","roads"] (spNums a):=by
  obtain ⟨f,fd,hm,F⟩:=F.ex
  refine ⟨f,fd,hm,F.kp,F.binds fun _ _ _ _ _ _ us hl=>match us,hl with | [_,_],_=>rfl,?_⟩
  refine F.okX sc_check_numbers (fun vs H Q E h=>?_) (fun cdv A outer s H vs Q E hr h=>?_)
  · obtain ⟨_,_,_,rfl,_⟩:=h
    rfl
  · obtain ⟨n,rl,xs,rfl,hx,hl,q,e⟩:=h
    refine ⟨_,(pss_cons (ps_if (PW.pt (pw_or (pt_cmpR op_lt (pv 0) pe_int (nomark _)) (pw_or1 (pt_cmpR op_gt (pv 0) (pe_glob (v:=V.int 8) rfl T.c_MOST_PLACES ⟨_,rfl⟩) (nomark _))))) (pss_one (ps_raise T.x_NoNet rfl rfl rais_cx (pa_cons (hs:=st_JoinedStr) (pe_fstr2 (pv 0)) pa_nil))) pss_nil)
      (pss_one (ps_if (pt_cmpR op_gt (pe_callB call_len_seq rfl T.b_len bt_len (pa_cons (hs:=st_Name) (pv 1) pa_nil)) (pe_glob (v:=V.int 64) rfl T.c_MOST_ROADS ⟨_,rfl⟩) (nomark _)) (pss_one (ps_raise T.x_NoNet rfl rfl rais_cx (pa_cons (hs:=st_Constant) pe_str pa_nil))) pss_nil))),?_⟩
    have hs:(Str.ofString "a net has 1 to 8 places, not ").length≤1000:=by decide +kernel
    have no:¬ (1≤n∧n≤8∧xs.length≤64)→numsOk n xs.length=false:=fun z=>by
      simp only [numsOk,Bool.and_eq_false_iff,decide_eq_false_iff_not]; omega
    refine ⟨_,rfl,_,_,rfl,rfl,_,rfl,iteD (fun c=>?_) (fun c=>?_)⟩
    · exact ⟨hs,_,rfl,_,rfl,hl,fun z=>⟨by show 1≤sizeLine; decide,e (no (by omega))⟩⟩
    · refine ⟨_,rfl,_,_,rfl,rfl,_,rfl,iteD (fun c2=>?_) (fun c2=>?_)⟩
      · exact ⟨hs,_,rfl,_,rfl,hl,fun z=>⟨by show 1≤sizeLine; decide,e (no (by omega))⟩⟩
      · refine ⟨_,rfl,rl,_,rfl,.inl (SqL.of hx),_,_,rfl,rfl,_,rfl,iteD (fun c3=>?_) (fun c3=>?_)⟩
        · exact ⟨by show 1≤sizeLine; decide,e (no (by omega))⟩
        · exact q (by simp only [numsOk,Bool.and_eq_true,decide_eq_true_eq]; omega)
def spEnds (a:Adr):Sp:=fun vs H Q E=>∃ (n:Int) (rl:Addr) (xs:List V) (rs:List Road),vs=[.int n,.ref rl]∧H rl=some (.lst xs)∧IsRoads H xs rs∧xs.length≤64∧(rs.all (endOk n)=true→∀ H',Same H H'→Q .non H')∧(rs.all (endOk n)=false→∀ H',Same H H'→E (.ref a.cNoNet) none H')
theorem all_take {α:Type} {p:α→Bool} {l:List α} {i:Nat} {x:α} (h:(l.take i).all p=true) (e:l[i]?=some x) (hx:p x=true):(l.take (i + 1)).all p=true:=by
  rw [List.take_add_one,e,List.all_append,h]
  simp [hx]
theorem all_not {α:Type} {p:α→Bool} {l:List α} {i:Nat} {x:α} (e:l[i]?=some x) (hx:p x=false):l.all p=false:=by
  rw [List.all_eq_false]
  exact ⟨x,List.mem_of_getElem? e,by simp [hx]⟩
theorem sc_check_ends:FnScope ["places","roads","number","road"] ["places","roads"] (defScope (top 13)):=⟨rfl,rfl,rfl,by decide +kernel,rfl,by decide +kernel,by decide +kernel⟩
theorem d_check_ends (T:Tx K mg a) (F:DefAt K mg "check_ends" (top 13)):Dn P w K mg base 1 "check_ends" ["places","roads"] (spEnds a):=by
  obtain ⟨f,fd,hm,F⟩:=F.ex
  refine ⟨f,fd,hm,F.kp,F.binds fun _ _ _ _ _ _ us hl=>match us,hl with | [_,_],_=>rfl,?_⟩
  refine F.okX sc_check_ends (fun vs H Q E h=>?_) (fun cdv A outer s H vs Q E hr h=>?_)
  · obtain ⟨_,_,_,_,rfl,_⟩:=h
    rfl
  · obtain ⟨n,rl,xs,rs,rfl,hx,hR,h64,q,e⟩:=h
    refine ⟨_,(pss_one (ps_for own_cx rfl (pi_enum rfl T.b_enumerate (pa_cons (hs:=st_Name) (pv 1) pa_nil)) (pg_tup rfl (pgs_cons (pg_name (i:=2) sc_check_ends.nd rfl (Or.inl rfl)) (pgs_cons (pg_name (i:=3) sc_check_ends.nd rfl (Or.inl rfl)) pgs_nil))) (pss_one (ps_if (pt_not (PW.pt (pw_and (pt_chain op_le op_lt pe_int (pe_ix ix_tup (pv 3) pe_int (fun _ _=>rfl)) (pv 0)) (pw_and1 (pt_chain op_le op_lt pe_int (pe_ix ix_tup (pv 3) pe_int (fun _ _=>rfl)) (pv 0)))))) (pss_one (ps_raise T.x_NoNet rfl rfl rais_cx (pa_cons (hs:=st_JoinedStr) (pe_fstrN (pj_str (pj_int (pv 2) (pj_str pj_nil)))) pa_nil))) pss_nil)))),?_⟩
    have hs1:(Str.ofString "an end of road ").length≤1000:=by decide +kernel
    have hs2:(Str.ofString " is no place").length≤1000:=by decide +kernel
    have hl:=hR.length
    refine ⟨_,rfl,rl,rfl,⟨xs,SqL.of hx⟩,for_enum (xs:=xs) (fun i σ H'=>∃ u v,σ=[some (.int n),some (.ref rl),u,v]∧Same H H'∧(rs.take i).all (endOk n)=true) ⟨_,_,rfl,Same.refl H,by simp⟩ (fun i σ H' _ ⟨_,_,_,s',_⟩=>SqL.of (s' _ _ hx)) ?_ ?_⟩
    · rintro i x σ H' p ex ⟨u,v,rfl,s',al⟩ np
      obtain ⟨r,er,pr,wv,rfl,e2,e3⟩:=pget hR ex
      have s2:Same H (upd H' p (.tup [.int (i:Nat),.ref pr])):=s'.trans (same_one np)
      have e4:=s2 _ _ e2
      have hi:i < xs.length:=(List.getElem?_eq_some_iff.mp ex).1
      have li:((i:Nat):Int).natAbs.log2 < 1920:=by
        refine log2_small ?_
        have:(64:Nat) < 10 ^ 62:=by decide
        omega
      have bad:endOk n r=false→E (.ref a.cNoNet) none (upd H' p (.tup [.int (i:Nat),.ref pr])):=fun z=>e (all_not er z) _ s2
      refine ⟨p,_,rfl,SqT.of upd_same,rfl,_,_,rfl,_,_,rfl,rfl,?_⟩
      have rz:endOk n r=false→_:=fun z=>(⟨hs1,_,rfl,_,rfl,li,hs2,fun z2=>⟨by show 1≤sizeLine; decide,bad z⟩⟩ :
        tRaise a.cNoNet E (tCons (tFsN fun σ H Q=>(Str.ofString "an end of road ").length≤1000∧tVar 2 σ H fun x H1=>∃ i,x=V.int i∧i.natAbs.log2 < 1920∧(Str.ofString " is no place").length≤1000∧Q H1) tNil) { nx:=fun _ H'=>Q .non H',rt:=Q } [some (.int n),some (.ref rl),some (.int (i:Nat)),some (.ref pr)] (upd H' p (.tup [.int (i:Nat),.ref pr])))
      have no:¬ (0≤r.f∧r.f < n∧0≤r.t∧r.t < n)→endOk n r=false:=fun z=>by
        simp only [endOk,Bool.and_eq_false_iff,decide_eq_false_iff_not]; omega
      refine ⟨_,rfl,pr,_,_,_,rfl,rfl,SqT.of e4,rfl,_,_,rfl,rfl,_,rfl,iteD (fun c1=>?_) (fun c1=>⟨_,rfl,iteF (iteT (rz (no (by omega))))⟩)⟩
      refine ⟨_,rfl,_,_,rfl,rfl,_,rfl,iteD (fun c2=>?_) (fun c2=>iteT (rz (no (by omega))))⟩
      refine ⟨_,rfl,pr,_,_,_,rfl,rfl,SqT.of e4,rfl,_,_,rfl,rfl,_,rfl,iteD (fun c3=>?_) (fun c3=>⟨_,rfl,iteT (rz (no (by omega)))⟩)⟩
      refine ⟨_,rfl,_,_,rfl,rfl,_,rfl,?_⟩
      by_cases c4:r.t < n
      · rw [decide_eq_true c4]
        exact iteF ⟨_,_,rfl,s2,all_take al er (by simp only [endOk,Bool.and_eq_true,decide_eq_true_eq]; omega)⟩
      · rw [decide_eq_false c4]
        exact iteT (rz (no (by omega)))
    · rintro σ H' ⟨u,v,rfl,s',al⟩
      exact q (by rw [hl,List.take_length] at al; exact al) _ s'
def spMay (a:Adr) (kd:Kd):Sp:=fun vs H Q _=>∃ (p lp:Addr) (xs:List V) (ws:List Wd),vs=[.ref p,.ref lp]∧KindAt a H p kd∧H lp=some (.lst xs)∧IsWs H xs ws∧ws.length≤64∧(kd=.chances→∀ x∈ws,Sm 4000 x)∧∀ H',Same H H'→Q (.bl (mayB kd ws)) H'
theorem sc_Kind_may_start_together:FnScope ["self","somes"] ["self","somes"] (defScope (inClass (top 7) 7)):=⟨rfl,rfl,rfl,by decide +kernel,rfl,by decide +kernel,by decide +kernel⟩
structure At_may_start_together (K:PySem.W.Frag) (a:Adr):Prop where
  fCounted:MthAt K a.cCounted "may_start_together" "Kind.may_start_together" (inClass (top 7) 7)
theorem len_may {kd:Kd} {vs:List V} {H:Hp} {Q:VK} {E:XK} (h:spMay a kd vs H Q E):vs.length=2:=by
  obtain ⟨_,_,_,_,rfl,_⟩:=h
  rfl
theorem v_may (T:Tx K mg a) (V_none:Mth P w K mg base 1 a.cl "none" ["self"] (fun i=>spZero a i.1)) 
    (F:At_may_start_together K a):Mth P w K mg base 36 a.cl "may_start_together" ["self","somes"] (fun i=>spMay a i.1):=by
  refine ⟨fun ⟨kd,hk⟩=>?_⟩
  cases kd with
  | fewest=>exact hk.elim
  | widest=>exact hk.elim
  | counted =>
    refine m_of hk T F.fCounted (fun _ _ _ _ _ _ us hl=>match us,hl with | [_,_],_=>rfl) fun f fd F=>F.okN sc_Kind_may_start_together (fun _ _ _ _=>len_may) (fun cdv A outer s H vs Q E hr h=>?_)
    obtain ⟨p,lp,xs,ws,rfl,_,_,_,_,_,q⟩:=h
    exact ⟨_,(pss_one (ps_ret pe_bl)),q _ (Same.refl H)⟩
  | likeliest=>exact hk.elim
  | chances=>exact hk.elim
  | musts=>exact hk.elim
  | rests m=>exact hk.elim
def spStarts (a:Adr):Sp:=fun vs H Q E=>∃ (kd:Kd) (kp:Addr) (n:Int) (rl:Addr) (xs:List V) (rs:List Road),vs=[.ref kp,.int n,.ref rl]∧KindAt a H kp kd∧HasK kd∧1≤n∧n≤8∧H rl=some (.lst xs)∧IsRoads H xs rs∧xs.length≤64∧(kd=.chances→∀ r∈rs,Sm 4000 r.w) ∧
  (startsOk kd n rs=true→∀ H',Same H H'→Q .non H')∧(startsOk kd n rs=false→∀ H',Same H H'→E (.ref a.cNoNet) none H')
theorem frm_take {p:Int} {rs:List Road} {i:Nat} {r:Road} (e:rs[i]?=some r):frm p (rs.take (i + 1))=if r.f=p then frm p (rs.take i) ++ [r.w] else frm p (rs.take i):=by
  unfold frm
  rw [List.take_add_one,e,List.filter_append,List.map_append]
  split
  · rename_i h; simp [h]
  · rename_i h; simp [h]
theorem Paired.snoc' {α β:Type} {F:α→β→Prop} {x:α} {y:β} {xs:List α} {ys:List β} (h:Paired F xs ys) (e:F x y):Paired F (xs ++ [x]) (ys ++ [y]):=Paired.snoc h e
theorem sc_check_starts:FnScope ["kind","places","roads","place"] ["kind","places","roads"] (defScope (top 14)):=⟨rfl,rfl,rfl,by decide +kernel,rfl,by decide +kernel,by decide +kernel⟩
theorem d_check_starts (T : Tx K mg a) (V_may_start_together : Mth P w K mg base 36 a.cl "may_start_together" ["self", "somes"] (fun i => spMay a i.1)) (F : DefAt K mg "check_starts" (top 14)) : Dn P w K mg base 37 "check_starts" ["kind", "places", "roads"] (spStarts a) := by
  obtain ⟨f, fd, hm, F⟩ := F.ex
  refine ⟨f, fd, hm, F.kp, F.binds fun _ _ _ _ _ _ us hl => match us, hl with | [_, _, _], _ => rfl, ?_⟩
  refine F.okX sc_check_starts (fun vs H Q E h => ?_) (fun cdv A outer s H vs Q E hr h => ?_)
  · obtain ⟨_, _, _, _, _, _, rfl, _⟩ := h
    rfl
  · obtain ⟨kd, kp, n, rl, xs, rs, rfl, ⟨dx, hk⟩, hK, n1, n8, hx, hR, h64, sm, q, e⟩ := h
    refine ⟨_, (pss_one (ps_for own_cx rfl (pi_range1 rfl T.b_range (pa_cons (hs := st_Name) (pv 1) pa_nil)) (pg_name (i := 3) sc_check_starts.nd rfl (Or.inr rfl)) (pss_one (ps_if (pt_not (pt_val (pe_methV (pv 0) V_may_start_together (hr.mono (by decide)) pass_cx (pa_cons (hs := st_ListComp) (pe_comp (N := ["kind", "places", "roads", "place"]) (osc := defScope (top 14)) (k := 1) (N' := ["road", "place"]) (fr := [3]) ⟨rfl, by decide +kernel, by decide +kernel, by decide +kernel, rfl, by decide +kernel, by decide +kernel⟩ rfl rfl rfl (pi_list (pv 2)) (fun ca => ⟨(pg_name (i := 0) (show List.Nodup (["road", "place"] : List Str) from by decide +kernel) rfl (Or.inl rfl)), (pts_one (pt_cmpR op_eq (pe_ix ix_tup (pv 0) pe_int (fun _ _ => rfl)) (pv 1) (nomark _))), (pe_ix ix_tup (pv 0) pe_int (fun _ _ => rfl))⟩)) pa_nil)) (fun _ => rfl))) (pss_one (ps_raise T.x_NoNet rfl rfl rais_cx (pa_cons (hs := st_JoinedStr) (pe_fstrN (pj_str (pj_int (pv 3) (pj_str pj_nil)))) pa_nil))) pss_nil)))), ?_⟩
    have hs1 : (Str.ofString "the roads that go from place ").length ≤ 1000 := by decide +kernel
    have hs2 : (Str.ofString " come to more than 1").length ≤ 1000 := by decide +kernel
    have hl := hR.length
    refine ⟨_, rfl, n, rfl, by omega, by omega, for_range (n := n.toNat) (fun i σ H' => ∃ u, σ = [some (.ref kp), some (.int n), some (.ref rl), u] ∧ Same H H' ∧ (List.range i).all (fun p => mayB kd (frm (p : Int) rs)) = true) ⟨_, rfl, Same.refl H, by simp⟩ ?_ ?_⟩
    · rintro i σ H' hi ⟨u, rfl, s', al⟩
      refine ⟨_, rfl, ⟨kd, hK⟩, kp, dx, _, rfl, s' _ _ hk, kfs_no _ (by decide +kernel), ?_⟩
      refine ⟨_, rfl, rl, rfl, ⟨xs, SqL.of (s' _ _ hx)⟩, comp_list (xs := xs) (fun j ys H2 => Same H H2 ∧ IsWs H2 ys (frm (0 + (i : Nat)) (rs.take j))) (lines (by omega)) ⟨s', by simp [frm]; exact .nil⟩ (fun j ys H2 _ ⟨s2, _⟩ => SqL.of (s2 _ _ hx)) ?_ ?_⟩
      · rintro j x ys H2 ex ⟨s2, hy⟩ ca
        obtain ⟨r, er, pr, wv, rfl, e2, e3⟩ := pget hR ex
        refine ⟨⟨rfl, rfl⟩, _, rfl, pr, _, _, _, rfl, rfl, SqT.of (s2 _ _ e2), rfl, _, rfl, rfl, _, rfl, iteEqI (fun c => ?_) (fun c => ?_)⟩
        · refine ⟨_, rfl, pr, _, _, _, rfl, rfl, SqT.of (s2 _ _ e2), rfl, s2, ?_⟩
          rw [frm_take er, if_pos c]
          exact hy.snoc (e3.same s2)
        · refine ⟨s2, ?_⟩
          rw [frm_take er, if_neg c]
          exact hy
      · rintro ys H2 ⟨s2, hy⟩ lp nl
        rw [hl, List.take_length] at hy
        have s3 : Same H (upd H2 lp (.lst ys)) := s2.trans (same_one nl)
        have fl := frm_len (0 + (i : Nat)) rs
        refine ⟨kp, lp, ys, frm (0 + (i : Nat)) rs, rfl, ⟨dx, s3 _ _ hk⟩, upd_same, hy.same (same_one nl), by omega, fun ec x hx' => ?_, fun H4 s4 => ⟨_, rfl, ?_⟩⟩
        · obtain ⟨r, hr', rfl⟩ := List.mem_map.mp hx'
          exact sm ec r (List.mem_filter.mp hr').1
        · have s5 := s3.trans s4
          have ei : (0 + (i : Int)) = (i : Int) := by omega
          cases c : mayB kd (frm (0 + (i : Nat)) rs) with
          | true =>
            refine iteF ⟨_, rfl, s5, ?_⟩
            rw [List.range_succ, List.all_append, al]
            rw [ei] at c
            simp [c]
          | false =>
            refine iteT ⟨hs1, _, rfl, _, rfl, log2_small (by have : (8 : Nat) < 10 ^ 62 := by decide
                                                             omega), hs2, fun z => ⟨by show 1 ≤ sizeLine; decide, e ?_ _ s5⟩⟩
            rw [startsOk, List.all_eq_false]
            rw [ei] at c
            exact ⟨i, List.mem_range.mpr hi, by simp [c]⟩
    · rintro σ H' ⟨u, rfl, s', al⟩
      exact q al _ s'
def spWorths (a:Adr):Sp:=fun vs H Q E=>∃ (kd:Kd) (kp:Addr) (rl:Addr) (xs:List V) (rs:List Road),vs=[.ref kp,.ref rl]∧KindAt a H kp kd∧HasK kd∧KdOk kd∧H rl=some (.lst xs)∧IsRoads H xs rs∧xs.length≤64 ∧
  (worthsOk kd rs=true→∀ H',Same H H'→Q .non H')∧(worthsOk kd rs=false→∀ H',Same H H'→E (.ref a.cNoWorth) none H')
theorem sc_check_worths:FnScope ["kind","roads","number","road"] ["kind","roads"] (defScope (top 15)):=⟨rfl,rfl,rfl,by decide +kernel,rfl,by decide +kernel,by decide +kernel⟩
theorem d_check_worths (T : Tx K mg a) (V_is_worth : Mth P w K mg base 3 a.cl "is_worth" ["self", "some"] (fun i => spIsWorth a i.1)) (F : DefAt K mg "check_worths" (top 15)) : Dn P w K mg base 4 "check_worths" ["kind", "roads"] (spWorths a) := by
  obtain ⟨f, fd, hm, F⟩ := F.ex
  refine ⟨f, fd, hm, F.kp, F.binds fun _ _ _ _ _ _ us hl => match us, hl with | [_, _], _ => rfl, ?_⟩
  refine F.okX sc_check_worths (fun vs H Q E h => ?_) (fun cdv A outer s H vs Q E hr h => ?_)
  · obtain ⟨_, _, _, _, _, rfl, _⟩ := h
    rfl
  · obtain ⟨kd, kp, rl, xs, rs, rfl, ⟨dx, hk⟩, hK, ok, hx, hR, h64, q, e⟩ := h
    refine ⟨_, (pss_one (ps_for own_cx rfl (pi_enum rfl T.b_enumerate (pa_cons (hs := st_Name) (pv 1) pa_nil)) (pg_tup rfl (pgs_cons (pg_name (i := 2) sc_check_worths.nd rfl (Or.inl rfl)) (pgs_cons (pg_name (i := 3) sc_check_worths.nd rfl (Or.inl rfl)) pgs_nil))) (pss_one (ps_if (pt_not (pt_val (pe_methV (pv 0) V_is_worth (hr.mono (by decide)) pass_cx (pa_cons (hs := st_Subscript) (pe_ix ix_tup (pv 3) pe_int (fun _ _ => rfl)) pa_nil)) (fun _ => rfl))) (pss_one (ps_raise T.x_NoWorth rfl rfl rais_cx (pa_cons (hs := st_JoinedStr) (pe_fstrN (pj_str (pj_int (pv 2) (pj_str pj_nil)))) pa_nil))) pss_nil)))), ?_⟩
    have hs1 : (Str.ofString "the worth of road ").length ≤ 1000 := by decide +kernel
    have hs2 : (Str.ofString " is none of the kind").length ≤ 1000 := by decide +kernel
    have hl := hR.length
    refine ⟨_, rfl, rl, rfl, ⟨xs, SqL.of hx⟩, for_enum (xs := xs) (fun i σ H' => ∃ u v, σ = [some (.ref kp), some (.ref rl), u, v] ∧ Same H H' ∧ worthsOk kd (rs.take i) = true) ⟨_, _, rfl, Same.refl H, by simp [worthsOk]⟩ (fun i σ H' _ ⟨_, _, _, s', _⟩ => SqL.of (s' _ _ hx)) ?_ ?_⟩
    · rintro i x σ H' p ex ⟨u, v, rfl, s', al⟩ np
      obtain ⟨r, er, pr, wv, rfl, e2, e3⟩ := pget hR ex
      have s2 : Same H (upd H' p (.tup [.int (i : Nat), .ref pr])) := s'.trans (same_one np)
      have hi : i < xs.length := (List.getElem?_eq_some_iff.mp ex).1
      refine ⟨p, _, rfl, SqT.of upd_same, rfl, _, _, rfl, _, _, rfl, rfl, ?_⟩
      refine ⟨_, rfl, ⟨kd, hK⟩, kp, dx, _, rfl, s2 _ _ hk, kfs_no _ (by decide +kernel), _, rfl, pr, _, _, _, rfl, rfl, SqT.of (s2 _ _ e2), rfl, kp, wv, r.w, rfl, ⟨dx, s2 _ _ hk⟩, ok, e3.same s2, _, rfl, ?_⟩
      cases c : isWorth kd r.w with
      | true => exact iteF ⟨_, _, rfl, s2, all_take al er c⟩
      | false =>
        refine iteT ⟨hs1, _, rfl, _, rfl, log2_small (by have : (64 : Nat) < 10 ^ 62 := by decide
                                                         omega), hs2, fun z => ⟨by show 1 ≤ sizeLine; decide, e ?_ _ s2⟩⟩
        exact all_not er c
    · rintro σ H' ⟨u, v, rfl, s', al⟩
      exact q (by rw [hl, List.take_length] at al; exact al) _ s'
end
end K10
namespace K10
open PySem L2 Ws
seal PE PT PW PA PC PS PSs PG PGs PI PO PJ PTs
section
variable {P : Program} {w : World} {K : PySem.W.Frag} {mg : Str → Option Value} {base : Heap} {a : Adr}
def SameBut (self:Addr) (H H':Hp):Prop:=∀ p o,p≠self→H p=some o→H' p=some o
def spNet (a:Adr):Sp:=fun vs H Q E=>∃ (self dx:Addr) (kd:Kd) (kp:Addr) (n:Int) (rl:Addr) (xs:List V) (rs:List Road),vs=[.ref self,.ref kp,.int n,.ref rl]∧H self=some (.ins a.cNet dx [])∧KindAt a H kp kd∧HasK kd∧KdOk kd∧kp≠self∧n.natAbs.log2 < 1920∧H rl=some (.lst xs)∧IsRoads H xs rs ∧
  (kd=.chances→xs.length≤64→∀ r∈rs,Sm 4000 r.w) ∧
  (netYes kd n rs=true→worthsOk kd rs=true→∀ tp H',SameBut self H H'→H' self=some (.ins a.cNet dx [("own_kind",.ref kp),("how_many",.int n),("own_roads",.ref tp)])→H' tp=some (.tup xs)→Q .non H') ∧
  (netYes kd n rs=false→∀ H',Same H H'→E (.ref a.cNoNet) none H')∧(netYes kd n rs=true→worthsOk kd rs=false→∀ H',Same H H'→E (.ref a.cNoWorth) none H')
theorem sc_Net_init:FnScope ["self","kind","places","roads"] ["self","kind","places","roads"] (defScope (inClass (top 16) 0)):=⟨rfl,rfl,rfl,by decide +kernel,rfl,by decide +kernel,by decide +kernel⟩
theorem make_Net (T:Tx K mg a) (D_check_numbers:Dn P w K mg base 1 "check_numbers" ["places","roads"] (spNums a)) (D_check_ends:Dn P w K mg base 1 "check_ends" ["places","roads"] (spEnds a))
    (D_check_starts:Dn P w K mg base 37 "check_starts" ["kind","places","roads"] (spStarts a)) (D_check_worths:Dn P w K mg base 4 "check_worths" ["kind","roads"] (spWorths a))
    (F:MthAt K a.cNet "__init__" "Net.__init__" (inClass (top 16) 0)):Mkr P w K mg base 38 "Net" a.cNet ["self","kind","places","roads"] (spNet a):=by
  obtain ⟨f,fd,hf,hi,F⟩:=F.ex
  refine ⟨T.g_Net,f,fd,⟨T.mk_Net,hf,hi,T.kp_Net⟩,F.binds fun _ _ _ _ _ _ us hl=>match us,hl with | [_,_,_,_],_=>rfl,?_⟩
  refine F.okX sc_Net_init (fun vs H Q E h=>?_) (fun cdv A outer s H vs Q E hr h=>?_)
  · obtain ⟨_,_,_,_,_,_,_,_,rfl,_⟩:=h
    rfl
  · obtain ⟨self,dx,kd,kp,n,rl,xs,rs,rfl,hself,⟨kdx,hk⟩,hK,ok,nk,hn,hx,hR,sm,q,e1,e2⟩:=h
    refine ⟨_,(pss_cons (ps_expr (pe_callD D_check_numbers (hr.mono (by decide)) rfl pass_cx (pa_cons (hs:=st_Name) (pv 2) (pa_cons (hs:=st_Name) (pv 3) pa_nil))))
      (pss_cons (ps_expr (pe_callD D_check_ends (hr.mono (by decide)) rfl pass_cx (pa_cons (hs:=st_Name) (pv 2) (pa_cons (hs:=st_Name) (pv 3) pa_nil))))
      (pss_cons (ps_expr (pe_callD D_check_starts (hr.mono (by decide)) rfl pass_cx (pa_cons (hs:=st_Name) (pv 1) (pa_cons (hs:=st_Name) (pv 2) (pa_cons (hs:=st_Name) (pv 3) pa_nil)))))
      (pss_cons (ps_expr (pe_callD D_check_worths (hr.mono (by decide)) rfl pass_cx (pa_cons (hs:=st_Name) (pv 1) (pa_cons (hs:=st_Name) (pv 3) pa_nil))))
      (pss_cons (ps_fld (pv 0) (pv 1) rfl)
      (pss_cons (ps_fld (pv 0) (pv 2) rfl)
      (pss_one (ps_fld (pv 0) (pe_callTy call_tuple_of rfl T.b_tuple bt_tuple (pa_cons (hs:=st_Name) (pv 3) pa_nil)) rfl)))))))),?_⟩
    have hl:=hR.length
    have no1:numsOk n xs.length=false→netYes kd n rs=false:=fun z=>by rw [netYes,← hl,z]; rfl
    refine ⟨_,rfl,_,rfl,n,rl,xs,rfl,hx,hn,fun y1=>?_,fun z=>e1 (no1 z) _ (Same.refl H)⟩
    have yy:=y1
    simp only [numsOk,Bool.and_eq_true,decide_eq_true_eq] at yy
    refine ⟨_,rfl,_,rfl,n,rl,xs,rs,rfl,hx,hR,by omega,fun y2 H1 s1=>?_,fun z H1 s1=>e1 (by rw [netYes,z]; simp) _ s1⟩
    refine ⟨_,rfl,_,rfl,_,rfl,kd,kp,n,rl,xs,rs,rfl,⟨kdx,s1 _ _ hk⟩,hK,by omega,by omega,s1 _ _ hx,hR.same s1,by omega,fun c=>sm c (by omega),fun y3 H2 s2=>?_,fun z H2 s2=>e1 (by rw [netYes,z]; simp) _ (s1.trans s2)⟩
    have yes:netYes kd n rs=true:=by rw [netYes,← hl,y1,y2,y3]; rfl
    have s12:=s1.trans s2
    refine ⟨_,rfl,_,rfl,kd,kp,rl,xs,rs,rfl,⟨kdx,s12 _ _ hk⟩,hK,ok,s12 _ _ hx,hR.same s12,by omega,fun y4 H3 s3=>?_,fun z H3 s3=>e2 yes z _ (s12.trans s3)⟩
    have s13:=s12.trans s3
    refine ⟨_,rfl,_,rfl,self,_,dx,[],rfl,s13 _ _ hself,T.cl_Net,T.na_Net_own_kind,(by show 0 < 1000; decide),?_⟩
    refine ⟨_,rfl,_,rfl,self,_,dx,_,rfl,upd_same,T.cl_Net,T.na_Net_how_many,(by show 1 < 1000; decide),?_⟩
    have nr:rl≠self:=ne_of hx hself (by intro z; cases z)
    refine ⟨_,rfl,rl,xs,rfl,.inl ⟨SqL.of (by rw [upd_ne nr,upd_ne nr]; exact s13 _ _ hx),fun tp ntp=>?_⟩⟩
    have nt:tp≠self:=fun z=>by rw [z,upd_same] at ntp; cases ntp
    refine ⟨_,rfl,self,_,dx,_,rfl,by rw [upd_ne (Ne.symm nt)]; exact upd_same,T.cl_Net,T.na_Net_own_roads,(by show 2 < 1000; decide),?_⟩
    refine q yes y4 tp _ (fun b o nb hb=>?_) upd_same ?_
    · have:upd (upd H3 self (HO.ins a.cNet dx (putF (Str.ofString "own_kind") (V.ref kp) []))) self (HO.ins a.cNet dx (putF (Str.ofString "how_many") (V.int n) (putF (Str.ofString "own_kind") (V.ref kp) []))) b=some o:=by
        rw [upd_ne nb,upd_ne nb]; exact s13 _ _ hb
      rw [upd_ne nb,upd_ne (ne_of_none this ntp)]
      exact this
    · rw [upd_ne nt]; exact upd_same
def spNKind (a:Adr):Sp:=fun vs H Q _=>∃ (p kp tp:Addr) (kd:Kd) (n:Nat) (xs:List V) (rs:List Road),vs=[.ref p]∧NetIs a H p kd n kp tp xs rs∧Q (.ref kp) H
def spNPlaces (a:Adr):Sp:=fun vs H Q _=>∃ (p kp tp:Addr) (kd:Kd) (n:Nat) (xs:List V) (rs:List Road),vs=[.ref p]∧NetIs a H p kd n kp tp xs rs∧Q (.int (n:Int)) H
def spNRoads (a:Adr):Sp:=fun vs H Q _=>∃ (p kp tp:Addr) (kd:Kd) (n:Nat) (xs:List V) (rs:List Road),vs=[.ref p]∧NetIs a H p kd n kp tp xs rs∧∀ l,H l=none→Q (.ref l) (upd H l (.lst xs))
theorem sc_Net_kind:FnScope ["self"] ["self"] (defScope (inClass (top 16) 1)):=⟨rfl,rfl,rfl,by decide +kernel,rfl,by decide +kernel,by decide +kernel⟩
theorem sc_Net_places:FnScope ["self"] ["self"] (defScope (inClass (top 16) 2)):=⟨rfl,rfl,rfl,by decide +kernel,rfl,by decide +kernel,by decide +kernel⟩
theorem sc_Net_roads:FnScope ["self"] ["self"] (defScope (inClass (top 16) 3)):=⟨rfl,rfl,rfl,by decide +kernel,rfl,by decide +kernel,by decide +kernel⟩
theorem n_of {m qual:Str} {st:Stmt} {ps:List Str} {k:Nat} {sp:Sp} (T:Tx K mg a) (F:MthAt K a.cNet m qual st)
    (hb:∀ (kV doc pm:Value) (an:Option Addr) (cdv ct:Value) (us:List Value),us.length=ps.length→bindArgs (PySem.W.fnOf m qual (defArgs st) (defBody st) (defScope st) .none kV doc pm an cdv ct) ⟨us,[]⟩=pure (ps.zip us))
    (h:∀ f fd,Fun K m qual st f fd→FnOk P w K mg base (CXE P w) k f fd ps sp):Mth P w K mg base k (fun _:Unit=>a.cNet) m ps (fun _=>sp):=by
  refine ⟨fun _=>?_⟩
  obtain ⟨f,fd,hf,hi,F⟩:=F.ex
  exact ⟨T.cl_Net,f,fd,⟨hf,hi,F.kp⟩,F.binds hb,h f fd F⟩
theorem v_kind (T:Tx K mg a) (F:MthAt K a.cNet "kind" "Net.kind" (inClass (top 16) 1)):Mth P w K mg base 1 (fun _:Unit=>a.cNet) "kind" ["self"] (fun _=>spNKind a) :=
  n_of T F (fun _ _ _ _ _ _ us hl=>match us,hl with | [_],_=>rfl) fun f fd F=>F.okN sc_Net_kind (fun vs H Q E h=>by obtain ⟨_,_,_,_,_,_,_,rfl,_⟩:=h; rfl) (fun cdv A outer s H vs Q E hr h=>by
    obtain ⟨p,kp,tp,kd,n,xs,rs,rfl,⟨⟨dx,hp⟩,_,_,_⟩,q⟩:=h
    exact ⟨_,(pss_one (ps_ret (pe_fld (pv 0) rfl))),⟨_,rfl,p,_,dx,_,_,rfl,hp,T.cl_Net,T.na_Net_own_kind,rfl,q⟩⟩)
theorem v_places (T:Tx K mg a) (F:MthAt K a.cNet "places" "Net.places" (inClass (top 16) 2)):Mth P w K mg base 1 (fun _:Unit=>a.cNet) "places" ["self"] (fun _=>spNPlaces a) :=
  n_of T F (fun _ _ _ _ _ _ us hl=>match us,hl with | [_],_=>rfl) fun f fd F=>F.okN sc_Net_places (fun vs H Q E h=>by obtain ⟨_,_,_,_,_,_,_,rfl,_⟩:=h; rfl) (fun cdv A outer s H vs Q E hr h=>by
    obtain ⟨p,kp,tp,kd,n,xs,rs,rfl,⟨⟨dx,hp⟩,_,_,_⟩,q⟩:=h
    exact ⟨_,(pss_one (ps_ret (pe_fld (pv 0) rfl))),⟨_,rfl,p,_,dx,_,_,rfl,hp,T.cl_Net,T.na_Net_how_many,rfl,q⟩⟩)
theorem v_roads (T:Tx K mg a) (F:MthAt K a.cNet "roads" "Net.roads" (inClass (top 16) 3)):Mth P w K mg base 1 (fun _:Unit=>a.cNet) "roads" ["self"] (fun _=>spNRoads a) :=
  n_of T F (fun _ _ _ _ _ _ us hl=>match us,hl with | [_],_=>rfl) fun f fd F=>F.okN sc_Net_roads (fun vs H Q E h=>by obtain ⟨_,_,_,_,_,_,_,rfl,_⟩:=h; rfl) (fun cdv A outer s H vs Q E hr h=>by
    obtain ⟨p,kp,tp,kd,n,xs,rs,rfl,⟨⟨dx,hp⟩,_,ht,_⟩,q⟩:=h
    exact ⟨_,(pss_one (ps_ret (pe_callTy call_list_of rfl T.b_list bt_list (pa_cons (hs:=st_Attribute) (pe_fld (pv 0) rfl) pa_nil)))),⟨_,rfl,p,_,dx,_,_,rfl,hp,T.cl_Net,T.na_Net_own_roads,rfl,tp,xs,rfl,.inr (SqT.of ht),q⟩⟩)
section
variable {H : Hp} {kd : Kd} {kp l : Addr} {n : Int} {xs : List V} {rs : List Road} {Q : Addr → Hp → Prop} {E : XK}
theorem mk_any (hk:KindAt a H kp kd) (hK:HasK kd) (ok:KdOk kd) (hl:H l=some (.lst xs)) (hR:IsRoads H xs rs) (hn:n.natAbs.log2 < 1920) (sm:kd=.chances→xs.length≤64→∀ r∈rs,Sm 4000 r.w)
    (q:netYes kd n rs=true→worthsOk kd rs=true→∀ x tp H',Same H H'→H x=none→NetIs a H' x kd n.toNat kp tp xs rs→Q x H') (e1:netYes kd n rs=false→∀ H',Same H H'→E (.ref a.cNoNet) none H') (e2:netYes kd n rs=true→worthsOk kd rs=false→∀ H',Same H H'→E (.ref a.cNoWorth) none H') :
    ∀ x dx,H x=none→H dx=none→dx≠x→spNet a [.ref x,.ref kp,.int n,.ref l] (upd (upd H dx (.own x)) x (.ins a.cNet dx [])) (fun v H2=>v=.non∧Q x H2) E:=by
  intro x dx nx ndx nex
  have s2:Same H (upd (upd H dx (.own x)) x (.ins a.cNet dx [])):=same_two nx ndx
  obtain ⟨kdx,hkp⟩:=hk
  refine ⟨x,dx,kd,kp,n,l,xs,rs,rfl,upd_same,⟨kdx,s2 _ _ hkp⟩,hK,ok,ne_of_none hkp nx,hn,s2 _ _ hl,hR.same s2,sm,fun y1 y2 tp H' sb hs ht=>⟨rfl,?_⟩,fun z H' s'=>e1 z H' (s2.trans s'),fun y z H' s'=>e2 y z H' (s2.trans s')⟩
  have s3:Same H H':=fun p o e=>sb p o (ne_of_none e nx) (s2 p o e)
  have n0:1≤n:=by
    simp only [netYes,numsOk,Bool.and_eq_true,decide_eq_true_eq] at y1
    exact y1.1.1.1
  refine q y1 y2 x tp H' s3 nx ⟨⟨dx,?_⟩,⟨kdx,s3 _ _ hkp⟩,ht,hR.same s3⟩
  rw [show ((n.toNat:Nat):Int)=n by omega]
  exact hs
end
end
end K10
namespace K10
open PySem L2 Ws
seal PE PT PW PA PC PS PSs PG PGs PI PO
section
variable {P : Program} {w : World} {K : PySem.W.Frag} {mg : Str → Option Value} {base : Heap} {a : Adr}
theorem isNo {i j:Int} (h:i≠j) {A B:Prop} (b:B):if decide (V.int i=V.int j)=true then A else B:=iteEqI (fun z=>absurd z h) (fun _=>b)
theorem isYes {i:Int} {A B:Prop} (b:A):if decide (V.int i=V.int i)=true then A else B:=iteEqI (fun _=>b) (fun z=>absurd rfl z)
def spLTog:Sp:=fun vs H Q _=>∃ (kd:Kd) (ok:KdOk kd) (v1 v2:V) (x y:Car kd),vs=[.int (kno kd),v1,v2]∧IsW H v1 (enc kd x)∧IsW H v2 (enc kd y)∧Sm Big (enc kd x)∧Sm Big (enc kd y) ∧
  ∀ v H',Same H H'→IsW H' v (enc kd ((ks kd ok).add x y))→Q v H'
theorem sc_law_tog:FnScope ["which","one","other"] ["which","one","other"] (defScope (top 27)):=⟨rfl,rfl,rfl,by decide +kernel,rfl,by decide +kernel,by decide +kernel⟩
theorem d_tog (T:Tx K mg a) (D_law_share:Dn P w K mg base 33 "_law_share" ["top","below"] spShare) (F:DefAt K mg "_law_tog" (top 27)):Dn P w K mg base 34 "_law_tog" ["which","one","other"] spLTog:=by
  obtain ⟨f,fd,hm,F⟩:=F.ex
  refine ⟨f,fd,hm,F.kp,F.binds fun _ _ _ _ _ _ us hl=>match us,hl with | [_,_,_],_=>rfl,?_⟩
  refine F.okN sc_law_tog (fun vs H Q E h=>?_) (fun cdv A outer s H vs Q E hr h=>?_)
  · obtain ⟨_,_,_,_,_,_,rfl,_⟩:=h
    rfl
  · obtain ⟨kd,ok,v1,v2,x,y,rfl,h1,h2,s1,s2,q⟩:=h
    refine ⟨_,(pss_cons (ps_if (PW.pt (pw_or (pt_cmpR op_eq (pv 0) pe_int (nomark _)) (pw_or1 (pt_cmpR op_eq (pv 0) pe_int (nomark _))))) (pss_cons (ps_if (PW.pt (pw_or (pt_cmp (pc_isN (pv 1))) (pw_or1 (pt_cmp (pc_isN (pv 2)))))) (pss_one (ps_ret (pe_ifExp (pt_cmp (pc_isN (pv 1))) (pv 2) (pv 1)))) pss_nil)
      (pss_one (ps_ret (pe_ifExp (pt_cmpR op_eq (pv 0) pe_int (nomark _)) (pe_callB (call_min2 rfl) rfl T.b_min bt_min (pa_cons (hs:=st_Name) (pv 1) (pa_cons (hs:=st_Name) (pv 2) pa_nil))) (pe_op op_and (pv 1) (pv 2)))))) pss_nil)
      (pss_cons (ps_if (pt_cmpR op_eq (pv 0) pe_int (nomark _)) (pss_one (ps_ret (pe_callB (call_max2 rfl) rfl T.b_max bt_max (pa_cons (hs:=st_Name) (pv 1) (pa_cons (hs:=st_Name) (pv 2) pa_nil))))) pss_nil)
      (pss_cons (ps_if (pt_cmpR op_eq (pv 0) pe_int (nomark _)) (pss_one (ps_ret (pe_ifExp (pt_cmpR op_lt (pe_callB (call_min2 rfl) rfl T.b_min bt_min (pa_cons (hs:=st_Name) (pv 1) (pa_cons (hs:=st_Name) (pv 2) pa_nil))) pe_int (nomark _)) (pe_un un_neg pe_int) (pe_op op_add (pv 1) (pv 2))))) pss_nil)
      (pss_cons (ps_if (pt_cmpR op_eq (pv 0) pe_int (nomark _)) (pss_one (ps_ret (pe_ifExp (pt_cmpR op_ge (pe_op op_mulX (pe_ix ix_tup (pv 1) pe_int (fun _ _=>rfl)) (pe_ix ix_tup (pv 2) pe_int (fun _ _=>rfl))) (pe_op op_mulX (pe_ix ix_tup (pv 2) pe_int (fun _ _=>rfl)) (pe_ix ix_tup (pv 1) pe_int (fun _ _=>rfl))) (nomark _)) (pv 1) (pv 2)))) pss_nil)
      (pss_cons (ps_if (pt_cmpR op_eq (pv 0) pe_int (nomark _)) (pss_one (ps_ret (pe_callD D_law_share (hr.mono (by decide)) rfl passE0 (pa_cons (hs:=st_BinOp) (pe_op op_add (pe_op op_mulX (pe_ix ix_tup (pv 1) pe_int (fun _ _=>rfl)) (pe_ix ix_tup (pv 2) pe_int (fun _ _=>rfl))) (pe_op op_mulX (pe_ix ix_tup (pv 2) pe_int (fun _ _=>rfl)) (pe_ix ix_tup (pv 1) pe_int (fun _ _=>rfl)))) (pa_cons (hs:=st_BinOp) (pe_op op_mulX (pe_ix ix_tup (pv 1) pe_int (fun _ _=>rfl)) (pe_ix ix_tup (pv 2) pe_int (fun _ _=>rfl))) pa_nil))))) pss_nil)
      (pss_one (ps_ret (pe_op op_or (pv 1) (pv 2))))))))),?_⟩
    cases kd with
    | fewest =>
      refine t_or_eq rfl (fun _=>?_) (fun z=>absurd (.inl rfl) z)
      rcases x with _ | i
      · obtain rfl:=isW_non h1
        exact ⟨_,rfl,_,rfl,iteT (iteT ⟨_,rfl,_,rfl,iteT ⟨_,rfl,q _ _ (Same.refl H) (by cases y <;> exact h2)⟩⟩)⟩
      · obtain rfl:=isW_int h1
        refine ⟨_,rfl,_,rfl,iteF ?_⟩
        rcases y with _ | j
        · obtain rfl:=isW_non h2
          exact ⟨_,rfl,_,rfl,iteT ⟨_,rfl,_,rfl,iteF ⟨_,rfl,q _ _ (Same.refl H) rfl⟩⟩⟩
        · obtain rfl:=isW_int h2
          exact ⟨_,rfl,_,rfl,iteF ⟨_,rfl,rfl,_,rfl,isYes ⟨_,rfl,_,rfl,_,_,rfl,q _ _ (Same.refl H) (min_if i j)⟩⟩⟩
    | widest =>
      obtain rfl:=isW_int h1
      obtain rfl:=isW_int h2
      refine t_or_eq rfl (fun z=>absurd z (by decide)) (fun _=>?_)
      exact ⟨_,rfl,rfl,_,rfl,isYes ⟨_,rfl,_,rfl,_,_,rfl,q _ _ (Same.refl H) (max_if x.1 y.1)⟩⟩
    | counted =>
      refine t_or_eq rfl (fun z=>absurd z (by decide)) (fun _=>?_)
      refine ⟨_,rfl,rfl,_,rfl,isNo (by decide) ?_⟩
      refine ⟨_,rfl,rfl,_,rfl,isYes ?_⟩
      rcases x with _ | i
      · obtain rfl:=isW_int h1
        rcases y with _ | j
        · obtain rfl:=isW_int h2
          exact ⟨_,rfl,_,rfl,_,_,rfl,_,_,rfl,rfl,_,rfl,iteD (fun _=>⟨_,rfl,q _ _ (Same.refl H) rfl⟩) (fun z=>absurd (by decide) z)⟩
        · obtain rfl:=isW_int h2
          exact ⟨_,rfl,_,rfl,_,_,rfl,_,_,rfl,rfl,_,rfl,iteD (fun _=>⟨_,rfl,q _ _ (Same.refl H) rfl⟩) (fun z=>absurd (by split <;> omega) z)⟩
      · obtain rfl:=isW_int h1
        rcases y with _ | j
        · obtain rfl:=isW_int h2
          exact ⟨_,rfl,_,rfl,_,_,rfl,_,_,rfl,rfl,_,rfl,iteD (fun _=>⟨_,rfl,q _ _ (Same.refl H) rfl⟩) (fun z=>absurd (by split <;> omega) z)⟩
        · obtain rfl:=isW_int h2
          exact ⟨_,rfl,_,rfl,_,_,rfl,_,_,rfl,rfl,_,rfl,iteD (fun z=>absurd z (by split <;> omega)) (fun _=>⟨_,rfl,_,rfl,_,_,rfl,rfl,q _ _ (Same.refl H) (by show (i:Int) + j=((i + j:Nat):Int); omega)⟩)⟩
    | likeliest =>
      obtain ⟨r1,rfl,e1⟩:=isW_pair h1
      obtain ⟨r2,rfl,e2⟩:=isW_pair h2
      refine t_or_eq rfl (fun z=>absurd z (by decide)) (fun _=>?_)
      refine ⟨_,rfl,rfl,_,rfl,isNo (by decide) ?_⟩
      refine ⟨_,rfl,rfl,_,rfl,isNo (by decide) ?_⟩
      refine ⟨_,rfl,rfl,_,rfl,isYes ?_⟩
      refine ⟨_,rfl,r1,_,_,_,rfl,rfl,SqT.of e1,rfl,_,rfl,r2,_,_,_,rfl,rfl,SqT.of e2,rfl,_,_,rfl,rfl,big_mul s1.1 s2.2,?_⟩
      refine ⟨_,rfl,r2,_,_,_,rfl,rfl,SqT.of e2,rfl,_,rfl,r1,_,_,_,rfl,rfl,SqT.of e1,rfl,_,_,rfl,rfl,big_mul s2.1 s1.2,_,_,rfl,rfl,_,rfl,?_⟩
      refine iteD (fun c=>?_) (fun c=>?_)
      · refine ⟨_,rfl,q _ _ (Same.refl H) ?_⟩
        show IsW H _ (ofR (rmax x.1 y.1))
        rw [show rmax x.1 y.1=x.1 from if_neg (fun z=>by have:=(lt_cross x.1 y.1).mpr z; omega)]
        exact h1
      · refine ⟨_,rfl,q _ _ (Same.refl H) ?_⟩
        show IsW H _ (ofR (rmax x.1 y.1))
        rw [show rmax x.1 y.1=y.1 from if_pos ((lt_cross x.1 y.1).mp (by omega))]
        exact h2
    | chances =>
      obtain ⟨r1,rfl,e1⟩:=isW_pair h1
      obtain ⟨r2,rfl,e2⟩:=isW_pair h2
      refine t_or_eq rfl (fun z=>absurd z (by decide)) (fun _=>?_)
      refine ⟨_,rfl,rfl,_,rfl,isNo (by decide) ?_⟩
      refine ⟨_,rfl,rfl,_,rfl,isNo (by decide) ?_⟩
      refine ⟨_,rfl,rfl,_,rfl,isNo (by decide) ?_⟩
      refine ⟨_,rfl,rfl,_,rfl,isYes ?_⟩
      refine ⟨_,rfl,r1,_,_,_,rfl,rfl,SqT.of e1,rfl,_,rfl,r2,_,_,_,rfl,rfl,SqT.of e2,rfl,_,_,rfl,rfl,big_mul s1.1 s2.2,?_⟩
      refine ⟨_,rfl,r2,_,_,_,rfl,rfl,SqT.of e2,rfl,_,rfl,r1,_,_,_,rfl,rfl,SqT.of e1,rfl,_,_,rfl,rfl,big_mul s2.1 s1.2,_,_,rfl,rfl,?_⟩
      refine ⟨_,rfl,r1,_,_,_,rfl,rfl,SqT.of e1,rfl,_,rfl,r2,_,_,_,rfl,rfl,SqT.of e2,rfl,_,_,rfl,rfl,big_mul s1.2 s2.2,?_⟩
      have n1:=Rat.num_nonneg.mpr x.2
      have n2:=Rat.num_nonneg.mpr y.2
      refine ⟨_,_,rfl,Int.add_nonneg (Int.mul_nonneg n1 (Int.le_of_lt (den_pos _))) (Int.mul_nonneg n2 (Int.le_of_lt (den_pos _))),Int.mul_pos (den_pos _) (den_pos _),fun v H' s' hv=>q v H' s' ?_⟩
      rw [add_shareW] at hv
      exact hv
    | musts =>
      refine t_or_eq rfl (fun _=>?_) (fun z=>absurd (.inr rfl) z)
      rcases x with _ | i
      · obtain rfl:=isW_non h1
        exact ⟨_,rfl,_,rfl,iteT (iteT ⟨_,rfl,_,rfl,iteT ⟨_,rfl,q _ _ (Same.refl H) (by cases y <;> exact h2)⟩⟩)⟩
      · obtain rfl:=isW_int h1
        refine ⟨_,rfl,_,rfl,iteF ?_⟩
        rcases y with _ | j
        · obtain rfl:=isW_non h2
          exact ⟨_,rfl,_,rfl,iteT ⟨_,rfl,_,rfl,iteF ⟨_,rfl,q _ _ (Same.refl H) rfl⟩⟩⟩
        · obtain rfl:=isW_int h2
          exact ⟨_,rfl,_,rfl,iteF ⟨_,rfl,rfl,_,rfl,isNo (by decide) ⟨_,rfl,_,rfl,_,_,rfl,rfl,q _ _ (Same.refl H) (bitAnd_nat i j)⟩⟩⟩
    | rests m =>
      obtain rfl:=isW_int h1
      obtain rfl:=isW_int h2
      rw [show kno (Kd.rests m)=6 from rfl]
      refine t_or_eq rfl (fun z=>absurd z (by decide)) (fun _=>?_)
      refine ⟨_,rfl,rfl,_,rfl,isNo (by decide) ?_⟩
      refine ⟨_,rfl,rfl,_,rfl,isNo (by decide) ?_⟩
      refine ⟨_,rfl,rfl,_,rfl,isNo (by decide) ?_⟩
      refine ⟨_,rfl,rfl,_,rfl,isNo (by decide) ?_⟩
      exact ⟨_,rfl,_,rfl,_,_,rfl,rfl,q _ _ (Same.refl H) (bitOr_nat x.1 y.1)⟩
def MIs (kd:Kd) (m:Int):Prop:=∀ n,kd=.rests n→m=n
def spLBeh:Sp:=fun vs H Q _=>∃ (kd:Kd) (ok:KdOk kd) (m:Int) (v1 v2:V) (x y:Car kd),vs=[.int (kno kd),.int m,v1,v2]∧MIs kd m∧IsW H v1 (enc kd x)∧IsW H v2 (enc kd y)∧Sm Big (enc kd x)∧Sm Big (enc kd y) ∧
  ∀ v H',Same H H'→IsW H' v (enc kd ((ks kd ok).mul x y))→Q v H'
theorem sc_law_beh:FnScope ["which","m","one","other","found","i","turned"] ["which","m","one","other"] (defScope (top 28)):=⟨rfl,rfl,rfl,by decide +kernel,rfl,by decide +kernel,by decide +kernel⟩
theorem d_beh (T:Tx K mg a) (D_law_share:Dn P w K mg base 33 "_law_share" ["top","below"] spShare) (F:DefAt K mg "_law_beh" (top 28)):Dn P w K mg base 34 "_law_beh" ["which","m","one","other"] spLBeh:=by
  obtain ⟨f,fd,hm,F⟩:=F.ex
  refine ⟨f,fd,hm,F.kp,F.binds fun _ _ _ _ _ _ us hl=>match us,hl with | [_,_,_,_],_=>rfl,?_⟩
  refine F.okN sc_law_beh (fun vs H Q E h=>?_) (fun cdv A outer s H vs Q E hr h=>?_)
  · obtain ⟨_,_,_,_,_,_,_,rfl,_⟩:=h
    rfl
  · obtain ⟨kd,ok,m,v1,v2,x,y,rfl,hm',h1,h2,s1,s2,q⟩:=h
    refine ⟨_,(pss_cons (ps_if (PW.pt (pw_or (pt_cmpR op_eq (pv 0) pe_int (nomark _)) (pw_or1 (pt_cmpR op_eq (pv 0) pe_int (nomark _))))) (pss_cons (ps_if (PW.pt (pw_or (pt_cmp (pc_isN (pv 2))) (pw_or1 (pt_cmp (pc_isN (pv 3)))))) (pss_one (ps_ret pe_non)) pss_nil)
      (pss_one (ps_ret (pe_ifExp (pt_cmpR op_eq (pv 0) pe_int (nomark _)) (pe_op op_add (pv 2) (pv 3)) (pe_op op_or (pv 2) (pv 3)))))) pss_nil)
      (pss_cons (ps_if (pt_cmpR op_eq (pv 0) pe_int (nomark _)) (pss_one (ps_ret (pe_callB (call_min2 rfl) rfl T.b_min bt_min (pa_cons (hs:=st_Name) (pv 2) (pa_cons (hs:=st_Name) (pv 3) pa_nil))))) pss_nil)
      (pss_cons (ps_if (pt_cmpR op_eq (pv 0) pe_int (nomark _)) (pss_cons (ps_if (PW.pt (pw_or (pt_cmpR op_eq (pv 2) pe_int (nomark _)) (pw_or1 (pt_cmpR op_eq (pv 3) pe_int (nomark _))))) (pss_one (ps_ret pe_int)) pss_nil)
      (pss_one (ps_ret (pe_ifExp (pt_cmpR op_lt (pe_callB (call_min2 rfl) rfl T.b_min bt_min (pa_cons (hs:=st_Name) (pv 2) (pa_cons (hs:=st_Name) (pv 3) pa_nil))) pe_int (nomark _)) (pe_un un_neg pe_int) (pe_op op_mulX (pv 2) (pv 3)))))) pss_nil)
      (pss_cons (ps_if (PW.pt (pw_or (pt_cmpR op_eq (pv 0) pe_int (nomark _)) (pw_or1 (pt_cmpR op_eq (pv 0) pe_int (nomark _))))) (pss_one (ps_ret (pe_callD D_law_share (hr.mono (by decide)) rfl passE0 (pa_cons (hs:=st_BinOp) (pe_op op_mulX (pe_ix ix_tup (pv 2) pe_int (fun _ _=>rfl)) (pe_ix ix_tup (pv 3) pe_int (fun _ _=>rfl))) (pa_cons (hs:=st_BinOp) (pe_op op_mulX (pe_ix ix_tup (pv 2) pe_int (fun _ _=>rfl)) (pe_ix ix_tup (pv 3) pe_int (fun _ _=>rfl))) pa_nil))))) pss_nil)
      (pss_cons (ps_set (i:=4) sc_law_beh.nd rfl (Or.inl rfl) pe_int)
      (pss_cons (ps_for PassesOwn.never rfl (pi_range1 rfl T.b_range (pa_cons (hs:=st_Name) (pv 1) pa_nil)) (pg_name (i:=5) sc_law_beh.nd rfl (Or.inl rfl)) (pss_one (ps_if (pt_cmpR op_eq (pe_op op_and (pe_op op_shr (pv 2) (pv 5)) pe_int) pe_int (nomark _)) (pss_cons (ps_set (i:=6) sc_law_beh.nd rfl (Or.inl rfl) (pe_op op_shl (pv 3) (pv 5)))
      (pss_one (ps_set (i:=4) sc_law_beh.nd rfl (Or.inl rfl) (pe_op op_or (pe_op op_or (pv 4) (pe_op op_and (pv 6) (pe_op op_sub (pe_op op_shl pe_int (pv 1)) pe_int))) (pe_op op_shr (pv 6) (pv 1)))))) pss_nil)))
      (pss_one (ps_ret (pv 4))))))))),?_⟩
    cases kd with
    | fewest =>
      refine t_or_eq rfl (fun _=>?_) (fun z=>absurd (.inl rfl) z)
      rcases x with _ | i
      · obtain rfl:=isW_non h1
        exact ⟨_,rfl,_,rfl,iteT (iteT (q _ _ (Same.refl H) True.intro))⟩
      · obtain rfl:=isW_int h1
        refine ⟨_,rfl,_,rfl,iteF ?_⟩
        rcases y with _ | j
        · obtain rfl:=isW_non h2
          exact ⟨_,rfl,_,rfl,iteT (q _ _ (Same.refl H) True.intro)⟩
        · obtain rfl:=isW_int h2
          exact ⟨_,rfl,_,rfl,iteF ⟨_,rfl,rfl,_,rfl,isYes ⟨_,rfl,_,rfl,_,_,rfl,rfl,q _ _ (Same.refl H) (by show (i:Int) + j=((i + j:Nat):Int); omega)⟩⟩⟩
    | widest =>
      obtain rfl:=isW_int h1
      obtain rfl:=isW_int h2
      refine t_or_eq rfl (fun z=>absurd z (by decide)) (fun _=>?_)
      exact ⟨_,rfl,rfl,_,rfl,isYes ⟨_,rfl,_,rfl,_,_,rfl,q _ _ (Same.refl H) (min_if x.1 y.1)⟩⟩
    | counted =>
      refine t_or_eq rfl (fun z=>absurd z (by decide)) (fun _=>?_)
      refine ⟨_,rfl,rfl,_,rfl,isNo (by decide) ?_⟩
      refine ⟨_,rfl,rfl,_,rfl,isYes ?_⟩
      obtain ⟨i,rfl,e1,hx⟩:=counted_is h1
      obtain ⟨j,rfl,e2,hy⟩:=counted_is h2
      rw [e1] at s1
      rw [e2] at s2
      have fin:∀ k:Int,enc .counted (oMul x y)=.int k→Q (.int k) H:=fun k e=>q _ _ (Same.refl H) (by show IsW H _ (enc .counted (oMul x y)); rw [e]; exact rfl)
      refine ⟨_,rfl,rfl,_,rfl,iteEqI (fun z=>?_) (fun zi=>?_)⟩
      · exact iteT (fin 0 (counted_zero hx z))
      refine ⟨_,rfl,rfl,_,rfl,iteEqI (fun z=>?_) (fun zj=>?_)⟩
      · exact fin 0 ((congrArg (enc .counted) (oMul_comm x y)).trans (counted_zero hy z))
      refine ⟨_,rfl,_,rfl,_,_,rfl,_,_,rfl,rfl,_,rfl,iteD (fun c=>?_) (fun c=>?_)⟩
      · refine ⟨_,rfl,fin (-1) (counted_endless hx hy zi zj ?_)⟩
        rcases hx with ⟨e,_⟩ | ⟨n,e,_⟩
        · exact .inl e
        · rcases hy with ⟨e',_⟩ | ⟨n',e',_⟩
          · exact .inr e'
          · exfalso; split at c <;> omega
      · have z1:i≠-1:=fun z=>c (by split <;> omega)
        have z2:j≠-1:=fun z=>c (by rcases hx with ⟨e,_⟩ | ⟨n,e,_⟩ <;> split <;> omega)
        exact ⟨_,rfl,_,rfl,_,_,rfl,rfl,big_mul s1 s2,fin _ (counted_prod hx hy z1 z2)⟩
    | likeliest =>
      obtain ⟨r1,rfl,e1⟩:=isW_pair h1
      obtain ⟨r2,rfl,e2⟩:=isW_pair h2
      refine t_or_eq rfl (fun z=>absurd z (by decide)) (fun _=>?_)
      refine ⟨_,rfl,rfl,_,rfl,isNo (by decide) ?_⟩
      refine ⟨_,rfl,rfl,_,rfl,isNo (by decide) ?_⟩
      refine t_or_eq rfl (fun _=>?_) (fun z=>absurd (.inl rfl) z)
      refine ⟨_,rfl,r1,_,_,_,rfl,rfl,SqT.of e1,rfl,_,rfl,r2,_,_,_,rfl,rfl,SqT.of e2,rfl,_,_,rfl,rfl,big_mul s1.1 s2.1,?_⟩
      refine ⟨_,rfl,r1,_,_,_,rfl,rfl,SqT.of e1,rfl,_,rfl,r2,_,_,_,rfl,rfl,SqT.of e2,rfl,_,_,rfl,rfl,big_mul s1.2 s2.2,?_⟩
      refine ⟨_,_,rfl,Int.mul_nonneg (Rat.num_nonneg.mpr x.2.1) (Rat.num_nonneg.mpr y.2.1),Int.mul_pos (den_pos _) (den_pos _),fun v H' s' hv=>q v H' s' ?_⟩
      rw [mul_shareW] at hv
      exact hv
    | chances =>
      obtain ⟨r1,rfl,e1⟩:=isW_pair h1
      obtain ⟨r2,rfl,e2⟩:=isW_pair h2
      refine t_or_eq rfl (fun z=>absurd z (by decide)) (fun _=>?_)
      refine ⟨_,rfl,rfl,_,rfl,isNo (by decide) ?_⟩
      refine ⟨_,rfl,rfl,_,rfl,isNo (by decide) ?_⟩
      refine t_or_eq rfl (fun _=>?_) (fun z=>absurd (.inr rfl) z)
      refine ⟨_,rfl,r1,_,_,_,rfl,rfl,SqT.of e1,rfl,_,rfl,r2,_,_,_,rfl,rfl,SqT.of e2,rfl,_,_,rfl,rfl,big_mul s1.1 s2.1,?_⟩
      refine ⟨_,rfl,r1,_,_,_,rfl,rfl,SqT.of e1,rfl,_,rfl,r2,_,_,_,rfl,rfl,SqT.of e2,rfl,_,_,rfl,rfl,big_mul s1.2 s2.2,?_⟩
      refine ⟨_,_,rfl,Int.mul_nonneg (Rat.num_nonneg.mpr x.2) (Rat.num_nonneg.mpr y.2),Int.mul_pos (den_pos _) (den_pos _),fun v H' s' hv=>q v H' s' ?_⟩
      rw [mul_shareW] at hv
      exact hv
    | musts =>
      refine t_or_eq rfl (fun _=>?_) (fun z=>absurd (.inr rfl) z)
      rcases x with _ | i
      · obtain rfl:=isW_non h1
        exact ⟨_,rfl,_,rfl,iteT (iteT (q _ _ (Same.refl H) True.intro))⟩
      · obtain rfl:=isW_int h1
        refine ⟨_,rfl,_,rfl,iteF ?_⟩
        rcases y with _ | j
        · obtain rfl:=isW_non h2
          exact ⟨_,rfl,_,rfl,iteT (q _ _ (Same.refl H) True.intro)⟩
        · obtain rfl:=isW_int h2
          exact ⟨_,rfl,_,rfl,iteF ⟨_,rfl,rfl,_,rfl,isNo (by decide) ⟨_,rfl,_,rfl,_,_,rfl,rfl,q _ _ (Same.refl H) (bitOr_nat i j)⟩⟩⟩
    | rests n =>
      obtain rfl:=isW_int h1
      obtain rfl:=isW_int h2
      obtain rfl:m=n:=hm' n rfl
      have o1:1≤n:=ok.1
      have o2:n≤12:=ok.2
      rw [show kno (Kd.rests n)=6 from rfl]
      refine t_or_eq rfl (fun z=>absurd z (by decide)) (fun _=>?_)
      refine ⟨_,rfl,rfl,_,rfl,isNo (by decide) ?_⟩
      refine ⟨_,rfl,rfl,_,rfl,isNo (by decide) ?_⟩
      refine t_or_eq rfl (fun z=>absurd z (by decide)) (fun _=>?_)
      refine ⟨_,rfl,(n:Int),rfl,by omega,by omega,?_⟩
      refine for_range (n:=(n:Int).toNat) (fun i σ H'=>H'=H∧i≤n∧∃ o1 o2,σ=[some (.int 6),some (.int n),some (.int x.1),some (.int y.1),some (.int (behTo n x.1 y.1 i:Nat)),o1,o2]) ⟨rfl,by omega,none,none,rfl⟩ ?_ ?_
      · rintro i σ H' hi ⟨rfl,_,o1',o2',rfl⟩
        have hi':i < n:=by omega
        rw [Int.zero_add]
        refine ⟨_,rfl,_,rfl,_,_,rfl,rfl,by omega,_,_,rfl,rfl,rfl,_,rfl,?_⟩
        have e:=behTo_succ n x.1 y.1 i
        refine iteEqI (fun z=>?_) (fun z=>?_)
        · rw [shr_nat,bit_one] at z
          have c:x.1.testBit i=true:=by
            cases c:x.1.testBit i with
            | true=>rfl
            | false=>rw [c] at z; exact absurd z (by decide)
          rw [if_pos c] at e
          refine ⟨_,rfl,_,rfl,_,_,rfl,rfl,cpow_nat (pow12 o2 y.2) (by omega),?_⟩
          refine ⟨_,rfl,_,rfl,_,rfl,_,_,rfl,rfl,cpow_one o2,_,_,rfl,rfl,_,_,rfl,rfl,_,_,rfl,rfl,_,rfl,_,rfl,_,_,rfl,rfl,Int.natCast_nonneg n,_,_,rfl,rfl,?_⟩
          refine ⟨rfl,by omega,some (V.int (i:Int)),some (V.int ((y.1 <<< i:Nat):Int)),?_⟩
          dsimp only
          rw [mask_nat,shl_nat,bitAnd_nat,shr_nat,bitOr_nat,bitOr_nat,Nat.or_assoc,e]
          rfl
        · rw [shr_nat,bit_one] at z
          have c:¬ x.1.testBit i=true:=fun c=>by rw [if_pos c] at z; exact z rfl
          rw [if_neg c] at e
          exact ⟨rfl,by omega,_,_,by rw [e]; rfl⟩
      · rintro σ H' ⟨rfl,_,o1',o2',rfl⟩
        exact ⟨_,rfl,q _ _ (Same.refl H') (by rw [Int.toNat_natCast]; rfl)⟩
end
end K10
namespace K10
open PySem L2 Ws
seal PE PT PW PA PC PS PSs PG PGs PI PO
section
variable {P : Program} {w : World} {K : PySem.W.Frag} {mg : Str → Option Value} {base : Heap} {a : Adr}
def spWhole:Sp:=fun vs H Q _=>∃ i:Int,vs=[.int i]∧Q (.bl true) H
theorem sc_law_whole:FnScope ["found"] ["found"] (defScope (top 23)):=⟨rfl,rfl,rfl,by decide +kernel,rfl,by decide +kernel,by decide +kernel⟩
theorem kit_iB {K:PySem.W.Frag}:PySem.W.kitOne K (.type "int") (.type "bool")=some false:=by rfl
theorem d_whole (T:Tx K mg a) (F:DefAt K mg "_law_whole" (top 23)):Dn P w K mg base 1 "_law_whole" ["found"] spWhole:=by
  obtain ⟨f,fd,hm,F⟩:=F.ex
  refine ⟨f,fd,hm,F.kp,F.binds fun _ _ _ _ _ _ us hl=>match us,hl with | [_],_=>rfl,?_⟩
  refine F.okN sc_law_whole (fun vs H Q E h=>?_) (fun cdv A outer s H vs Q E hr h=>?_)
  · obtain ⟨_,rfl,_⟩:=h
    rfl
  · obtain ⟨i,rfl,q⟩:=h
    refine ⟨_,(pss_one (ps_ret (pe_and (pe_callB call_isinst rfl T.b_isinstance bt_isinstance (pa_cons (hs:=st_Name) (pv 0) (pa_cons (hs:=st_Name) (pe_bltn (v:=V.ty "int") rfl T.b_int bt_int rfl) pa_nil))) (pe_one (pe_not (pe_callB call_isinst rfl T.b_isinstance bt_isinstance (pa_cons (hs:=st_Name) (pv 0) (pa_cons (hs:=st_Name) (pe_bltn (v:=V.ty "bool") rfl T.b_bool bt_bool rfl) pa_nil)))))))),?_⟩
    exact ⟨_,rfl,_,_,_,_,_,rfl,rfl,.of (.int _),kit_iI,_,rfl,iteT ⟨_,rfl,_,_,_,_,_,rfl,rfl,.of (.int _),kit_iB,_,rfl,q⟩⟩
def spIs:Sp:=fun vs H Q _=>∃ (v1 v2:V) (w:Wd),vs=[v1,v2]∧IsW H v1 w∧IsW H v2 w∧Q (.bl true) H
theorem sc_law_is:FnScope ["found","due"] ["found","due"] (defScope (top 30)):=⟨rfl,rfl,rfl,by decide +kernel,rfl,by decide +kernel,by decide +kernel⟩
theorem d_is (T:Tx K mg a) (D_law_whole:Dn P w K mg base 1 "_law_whole" ["found"] spWhole) (F:DefAt K mg "_law_is" (top 30)):Dn P w K mg base 2 "_law_is" ["found","due"] spIs:=by
  obtain ⟨f,fd,hm,F⟩:=F.ex
  refine ⟨f,fd,hm,F.kp,F.binds fun _ _ _ _ _ _ us hl=>match us,hl with | [_,_],_=>rfl,?_⟩
  refine F.okN sc_law_is (fun vs H Q E h=>?_) (fun cdv A outer s H vs Q E hr h=>?_)
  · obtain ⟨_,_,_,rfl,_⟩:=h
    rfl
  · obtain ⟨v1,v2,w',rfl,h1,h2,q⟩:=h
    refine ⟨_,(pss_cons (ps_if (pt_cmp (pc_isN (pv 1))) (pss_one (ps_ret (pe_cmp (pc_isN (pv 0))))) pss_nil)
      (pss_cons (ps_if (pt_val (pe_callB call_isinst rfl T.b_isinstance bt_isinstance (pa_cons (hs:=st_Name) (pv 1) (pa_cons (hs:=st_Name) (pe_bltn (v:=V.ty "tuple") rfl T.b_tuple bt_tuple rfl) pa_nil))) (fun _=>rfl)) (pss_cons (ps_if (PW.pt (pw_or (pt_not (pt_val (pe_callB call_isinst rfl T.b_isinstance bt_isinstance (pa_cons (hs:=st_Name) (pv 0) (pa_cons (hs:=st_Name) (pe_bltn (v:=V.ty "tuple") rfl T.b_tuple bt_tuple rfl) pa_nil))) (fun _=>rfl))) (pw_or1 (pt_cmpR op_ne (pe_callB call_len_seq rfl T.b_len bt_len (pa_cons (hs:=st_Name) (pv 0) pa_nil)) pe_int (nomark _))))) (pss_one (ps_ret pe_bl)) pss_nil)
      (pss_one (ps_ret (pe_and (pe_callD D_law_whole (hr.mono (by decide)) rfl passE0 (pa_cons (hs:=st_Subscript) (pe_ix ix_tup (pv 0) pe_int (fun _ _=>rfl)) pa_nil)) (pe_and (pe_callD D_law_whole (hr.mono (by decide)) rfl passE0 (pa_cons (hs:=st_Subscript) (pe_ix ix_tup (pv 0) pe_int (fun _ _=>rfl)) pa_nil)) (pe_one (pe_cmpR (op_eq.or (op_eqT hr.units0)) (pv 0) (pv 1) (nomark _)))))))) pss_nil)
      (pss_one (ps_ret (pe_and (pe_callD D_law_whole (hr.mono (by decide)) rfl passE0 (pa_cons (hs:=st_Name) (pv 0) pa_nil)) (pe_one (pe_cmpR (op_eq.or (op_eqT hr.units0)) (pv 0) (pv 1) (nomark _)))))))),?_⟩
    cases w' with
    | non =>
      obtain rfl:=isW_non h1
      obtain rfl:=isW_non h2
      exact ⟨_,rfl,_,rfl,iteT ⟨_,rfl,q⟩⟩
    | int i =>
      obtain rfl:=isW_int h1
      obtain rfl:=isW_int h2
      refine ⟨_,rfl,_,rfl,iteF ⟨_,rfl,_,_,_,_,_,rfl,rfl,.of (.int _),kit_iT,_,rfl,iteF ?_⟩⟩
      refine ⟨_,rfl,i,rfl,_,rfl,iteT ⟨_,rfl,_,rfl,.inl ⟨rfl,?_⟩⟩⟩
      rw [decide_eq_true rfl]
      exact q
    | pair x y =>
      obtain ⟨r1,rfl,e1⟩:=isW_pair h1
      obtain ⟨r2,rfl,e2⟩:=isW_pair h2
      refine ⟨_,rfl,_,rfl,iteF ⟨_,rfl,_,_,_,_,_,rfl,rfl,.of (.tup e2),kit_tT,_,rfl,iteT ?_⟩⟩
      refine ⟨_,rfl,_,_,_,_,_,rfl,rfl,.of (.tup e1),kit_tT,_,rfl,iteF ?_⟩
      refine ⟨_,rfl,r1,_,rfl,.inr (SqT.of e1),rfl,_,rfl,iteF ?_⟩
      refine ⟨_,rfl,r1,_,_,_,rfl,rfl,SqT.of e1,rfl,x,rfl,_,rfl,iteT ?_⟩
      refine ⟨_,rfl,r1,_,_,_,rfl,rfl,SqT.of e1,rfl,y,rfl,_,rfl,iteT ?_⟩
      refine ⟨_,rfl,_,rfl,.inr ⟨r1,r2,_,_,rfl,rfl,SqT.of e1,SqT.of e2,rfl,rfl,?_⟩⟩
      rw [show eqVs [V.int x,V.int y] [V.int x,V.int y]=true by simp [eqVs,eqV]]
      exact q
end
end K10
namespace K10
open PySem L2 Ws
seal PE PT PW PA PC PS PSs PG PGs PI PO PJ PTs
theorem IsW.st {H H':Hp} (e:STup H H'):∀ {v:V} {w:Wd},IsW H v w→IsW H' v w
  | .non,.non,_=>True.intro
  | .int _,.int _,h=>h
  | .ref _,.pair _ _,h=>e _ _ h
theorem IsRoad.st {H H':Hp} (e:STup H H') {v:V} {r:Road}:IsRoad H v r→IsRoad H' v r:=fun ⟨p,wv,e1,e2,e3⟩=>⟨p,wv,e1,e _ _ e2,e3.st e⟩
theorem IsRoads.st {H H':Hp} (e:STup H H') {vs:List V} {rs:List Road} (h:IsRoads H vs rs):IsRoads H' vs rs:=Paired.mapP h fun _ _ q=>q.st e
theorem NetIs.up {a:Adr} {H:Hp} {p l:Addr} {kd:Kd} {n:Nat} {kp tp:Addr} {vs ys:List V} {rs:List Road} {o:HO} (h:H l=some (.lst ys)) (N:NetIs a H p kd n kp tp vs rs):NetIs a (upd H l o) p kd n kp tp vs rs :=
  ⟨let ⟨dx,q⟩:=N.ins; ⟨dx,by rw [upd_ne (ne_of q h (by intro z; cases z))]; exact q⟩,let ⟨dx,q⟩:=N.kind; ⟨dx,by rw [upd_ne (ne_of q h (by intro z; cases z))]; exact q⟩,stup_lst h _ _ N.tup,N.rds.st (stup_lst h)⟩
section
variable {P : Program} {w : World} {K : PySem.W.Frag} {mg : Str → Option Value} {base : Heap} {a : Adr}
theorem over_shareW {p q:Rat} (h:0 < q):shareW (p.num * q.den) (p.den * q.num)=ofR (p * q⁻¹):=by
  have hn:0 < q.num:=num_pos.mpr h
  rw [shareW_ofR (Int.mul_pos (den_pos p) hn),← Rat.divInt_mul_divInt,Rat.num_divInt_den]
  have:=Rat.inv_divInt q.num q.den
  rw [Rat.num_divInt_den] at this
  rw [this]
theorem shAll_take {p:Int} {rs:List Road} {i:Nat} {r:Road} (e:rs[i]?=some r):shAll (frm p (rs.take (i + 1)))=if r.f=p then shAll (frm p (rs.take i)) + toR r.w else shAll (frm p (rs.take i)):=by
  rw [frm_take e]
  split
  · unfold shAll
    rw [List.map_append,List.sum_append]
    simp [Rat.add_zero]
  · rfl
def spThin:Sp:=fun vs H Q _=>∃ (n:Int) (rl:Addr) (xs:List V) (rs:List Road),vs=[.int n,.ref rl]∧H rl=some (.lst xs)∧IsRoads H xs rs∧xs.length≤64∧(∀ r∈rs,isWorth .chances r.w=true∧Sm 110 r.w) ∧
  ∀ l ys H',Same H H'→H l=none→H' l=some (.lst ys)→IsRoads H' ys (thin rs)→Q (.ref l) H'
theorem sc_law_thinned:FnScope ["many","roads","found","road","whole","other","worth"] ["many","roads"] (defScope (top 31)):=⟨rfl,rfl,rfl,by decide +kernel,rfl,by decide +kernel,by decide +kernel⟩
theorem d_thinned (T:Tx K mg a) (D_law_tog:Dn P w K mg base 34 "_law_tog" ["which","one","other"] spLTog) (D_law_share:Dn P w K mg base 33 "_law_share" ["top","below"] spShare) (F:DefAt K mg "_law_thinned" (top 31)):Dn P w K mg base 35 "_law_thinned" ["many","roads"] spThin:=by
  obtain ⟨f,fd,hm,F⟩:=F.ex
  refine ⟨f,fd,hm,F.kp,F.binds fun _ _ _ _ _ _ us hl=>match us,hl with | [_,_],_=>rfl,?_⟩
  refine F.okN sc_law_thinned (fun vs H Q E h=>?_) (fun cdv A outer s H vs Q E hr h=>?_)
  · obtain ⟨_,_,_,_,rfl,_⟩:=h
    rfl
  · obtain ⟨n,rl,xs,rs,rfl,hx,hR,h64,hw,q⟩:=h
    have hl:=hR.length
    have sh:∀ r∈rs,ofR (toR r.w)=r.w∧0≤toR r.w∧Sm 110 (ofR (toR r.w)):=fun r hr=>by
      have iw:=(hw r hr).1
      have e:ofR (toR r.w)=r.w:=by
        refine ofR_toR ?_
        revert iw
        cases r.w with
        | pair x y=>simp only [isWorth,Bool.and_eq_true]; exact fun h=>h.1
        | _=>intro h; simp [isWorth] at h
      exact ⟨e,toR_nonneg iw,by rw [e]; exact (hw r hr).2⟩
    have nn:∀ (p:Int) (i:Nat),0≤shAll (frm p (rs.take i)):=fun p i=>sum_nonneg _ fun x hx=>by
      obtain ⟨y,hy,rfl⟩:=List.mem_map.mp hx
      obtain ⟨r,hr,rfl⟩:=List.mem_map.mp hy
      exact (sh r (List.mem_of_mem_take (List.mem_filter.mp hr).1)).2.1
    refine ⟨_,(pss_cons (ps_set (i:=2) sc_law_thinned.nd rfl (Or.inl rfl) (pe_lst pa_nil))
      (pss_cons (ps_for PassesOwn.never rfl (pi_list (pv 1)) (pg_name (i:=3) sc_law_thinned.nd rfl (Or.inl rfl)) (pss_cons (ps_set (i:=4) sc_law_thinned.nd rfl (Or.inl rfl) (pe_tup (pa_cons (hs:=st_Constant) pe_int (pa_cons (hs:=st_Constant) pe_int pa_nil))))
      (pss_cons (ps_for PassesOwn.never rfl (pi_list (pv 1)) (pg_name (i:=5) sc_law_thinned.nd rfl (Or.inl rfl)) (pss_one (ps_if (pt_cmpR op_eq (pe_ix ix_tup (pv 5) pe_int (fun _ _=>rfl)) (pe_ix ix_tup (pv 3) pe_int (fun _ _=>rfl)) (nomark _)) (pss_one (ps_set (i:=4) sc_law_thinned.nd rfl (Or.inl rfl) (pe_callD D_law_tog (hr.mono (by decide)) rfl passE0 (pa_cons (hs:=st_Constant) pe_int (pa_cons (hs:=st_Name) (pv 4) (pa_cons (hs:=st_Subscript) (pe_ix ix_tup (pv 5) pe_int (fun _ _=>rfl)) pa_nil)))))) pss_nil)))
      (pss_cons (ps_set (i:=6) sc_law_thinned.nd rfl (Or.inl rfl) (pe_ix ix_tup (pv 3) pe_int (fun _ _=>rfl)))
      (pss_cons (ps_if (pt_cmpR op_gt (pe_ix ix_tup (pv 4) pe_int (fun _ _=>rfl)) (pe_ix ix_tup (pv 4) pe_int (fun _ _=>rfl)) (nomark _)) (pss_one (ps_set (i:=6) sc_law_thinned.nd rfl (Or.inl rfl) (pe_callD D_law_share (hr.mono (by decide)) rfl passE0 (pa_cons (hs:=st_BinOp) (pe_op op_mulX (pe_ix ix_tup (pv 6) pe_int (fun _ _=>rfl)) (pe_ix ix_tup (pv 4) pe_int (fun _ _=>rfl))) (pa_cons (hs:=st_BinOp) (pe_op op_mulX (pe_ix ix_tup (pv 6) pe_int (fun _ _=>rfl)) (pe_ix ix_tup (pv 4) pe_int (fun _ _=>rfl))) pa_nil))))) pss_nil)
      (pss_one (ps_expr (pe_bm PySem.F.plainAttrs_list PySem.F.slot_list_append PySem.F.type_list_append mt_append (pv 2) (pa_cons (hs:=st_Tuple) (pe_tup (pa_cons (hs:=st_Subscript) (pe_ix ix_tup (pv 3) pe_int (fun _ _=>rfl)) (pa_cons (hs:=st_Subscript) (pe_ix ix_tup (pv 3) pe_int (fun _ _=>rfl)) (pa_cons (hs:=st_Name) (pv 6) pa_nil)))) pa_nil)))))))))
      (pss_one (ps_ret (pv 2))))),?_⟩
    refine ⟨(by show 0≤sizeLine; decide),fun fl nf=>?_⟩
    refine ⟨_,rfl,rl,rfl,⟨xs,SqL.of (same_one nf _ _ hx)⟩,for_list (xs:=xs) (fun i σ H'=>∃ ys o1 o2 o3 o4,σ=[some (.int n),some (.ref rl),some (.ref fl),o1,o2,o3,o4]∧Same H H'∧H' fl=some (.lst ys)∧ys.length≤i∧IsRoads H' ys ((thin rs).take i))
      ⟨[],_,_,_,_,rfl,same_one nf,upd_same,Nat.zero_le _,by simp; exact .nil⟩ (fun i σ H' _ ⟨_,_,_,_,_,_,s',_⟩=>SqL.of (s' _ _ hx)) ?_ ?_⟩
    · rintro i x σ H' ex ⟨ys,o1,o2,o3,o4,rfl,s',hf,hyl,hy⟩
      obtain ⟨r,er,pr,wv,rfl,e2,e3⟩:=pget hR ex
      have hi:i < xs.length:=(List.getElem?_eq_some_iff.mp ex).1
      have hrm:=List.mem_of_getElem? er
      refine ⟨(by show 2≤sizeLine; decide),fun p0 n0=>?_⟩
      refine ⟨_,rfl,rl,rfl,⟨xs,SqL.of (same_one n0 _ _ (s' _ _ hx))⟩,for_list (xs:=xs) (fun j σ H2=>∃ v o3,σ=[some (.int n),some (.ref rl),some (.ref fl),some (.ref pr),some v,o3,o4]∧Same H' H2∧IsW H2 v (ofR (shAll (frm r.f (rs.take j))))∧Sm (111 * j + 30) (ofR (shAll (frm r.f (rs.take j)))))
        ⟨_,_,rfl,same_one n0,upd_same,(show Sm 30 (ofR 0) by decide)⟩ (fun j σ H2 _ ⟨_,_,_,s2,_⟩=>SqL.of (s2 _ _ (s' _ _ hx))) ?_ ?_⟩
      · rintro j y σ H2 ey ⟨v,o3,rfl,s2,hv,sv⟩
        obtain ⟨r2,er2,pr2,wv2,rfl,e4,e5⟩:=pget hR ey
        have hj:j < xs.length:=(List.getElem?_eq_some_iff.mp ey).1
        have s02:=s'.trans s2
        refine ⟨_,rfl,pr2,_,_,_,rfl,rfl,SqT.of (s02 _ _ e4),rfl,_,rfl,pr,_,_,_,rfl,rfl,SqT.of (s02 _ _ e2),rfl,rfl,_,rfl,iteEqI (fun c=>?_) (fun c=>?_)⟩
        · obtain ⟨ew,ww,sw⟩:=sh r2 (List.mem_of_getElem? er2)
          refine ⟨_,rfl,_,rfl,pr2,_,_,_,rfl,rfl,SqT.of (s02 _ _ e4),rfl,.chances,trivial,v,wv2,⟨_,nn r.f j⟩,⟨toR r2.w,ww⟩,rfl,hv,?_,sv.mono (by show _≤16000000; omega),sw.mono (by decide),fun v3 H3 s3 hv3=>⟨v3,_,rfl,s2.trans s3,?_,?_⟩⟩
          · show IsW H2 wv2 (ofR (toR r2.w))
            rw [ew]; exact e5.same s02
          · rw [shAll_take er2,if_pos c]; exact hv3
          · rw [shAll_take er2,if_pos c]; exact (sm_addR sv sw).mono (by omega)
        · refine ⟨v,_,rfl,s2,?_,?_⟩
          · rw [shAll_take er2,if_neg c]; exact hv
          · rw [shAll_take er2,if_neg c]; exact sv.mono (by omega)
      · rintro σ H2 ⟨v,o3,rfl,s2,hv,sv⟩
        rw [hl,List.take_length] at hv sv
        obtain ⟨rv,rfl,ev⟩:=isW_pair hv
        have s02:=s'.trans s2
        obtain ⟨ew,ww,sw⟩:=sh r hrm
        refine ⟨_,rfl,pr,_,_,_,rfl,rfl,SqT.of (s02 _ _ e2),rfl,?_⟩
        have fin:∀ (v4:V) (o3:Option V) (H4:Hp),Same H2 H4→IsW H4 v4 (thinW rs r)→∀ t,H4 t=none→(upd H4 t (.tup [.int r.f,.int r.t,v4])) fl=some (.lst ys)∧(∃ ys' o1 o2 o3' o4,([some (.int n),some (.ref rl),some (.ref fl),some (.ref pr),some (.ref rv),o3,some v4]:St)=[some (.int n),some (.ref rl),some (.ref fl),o1,o2,o3',o4] ∧
            Same H (upd (upd H4 t (.tup [.int r.f,.int r.t,v4])) fl (.lst (ys ++ [.ref t])))∧(upd (upd H4 t (.tup [.int r.f,.int r.t,v4])) fl (.lst (ys ++ [.ref t]))) fl=some (.lst ys')∧ys'.length≤i + 1∧IsRoads (upd (upd H4 t (.tup [.int r.f,.int r.t,v4])) fl (.lst (ys ++ [.ref t]))) ys' ((thin rs).take (i + 1))):=by
          intro v4 o3 H4 s4 hv4 t nt
          have s5:Same H4 (upd H4 t (.tup [.int r.f,.int r.t,v4])):=same_one nt
          have hf5:=s5 _ _ (s4 _ _ (s2 _ _ hf))
          refine ⟨hf5,ys ++ [.ref t],_,_,_,_,rfl,?_,upd_same,by rw [List.length_append,List.length_singleton]; omega,?_⟩
          · exact same_upd ((s02.trans s4).trans s5) nf
          · have et:(thin rs)[i]?=some { r with w:=thinW rs r }:=by unfold thin; rw [List.getElem?_map,er]; rfl
            rw [List.take_add_one,et]
            have st:=(same_st ((s2.trans s4).trans s5)).trans (stup_lst (o:=.lst (ys ++ [.ref t])) hf5)
            refine Paired.snoc (hy.st st) ⟨t,v4,rfl,stup_lst hf5 _ _ upd_same,hv4.st ((same_st s5).trans (stup_lst hf5))⟩
        have e3':IsW H2 wv (ofR (toR r.w)):=by rw [ew]; exact e3.same s02
        obtain ⟨rw_,rfl,erw⟩:=isW_pair e3'
        have lz:ys.length < sizeLine:=lines (by omega)
        refine ⟨_,rfl,rv,_,_,_,rfl,rfl,SqT.of ev,rfl,_,rfl,rv,_,_,_,rfl,rfl,SqT.of ev,rfl,_,_,rfl,rfl,_,rfl,iteD (fun c=>?_) (fun c=>?_)⟩
        · have c1:1 < shAll (frm r.f rs):=Rat.not_le.mp fun z=>by have:=le_one.mpr z; omega
          have c0:0 < shAll (frm r.f rs):=by grind
          have sw':Sm Big (ofR (toR r.w)):=sw.mono (by decide)
          have sv':Sm Big (ofR (shAll (frm r.f rs))):=sv.mono (by show _≤16000000; omega)
          refine ⟨_,rfl,rw_,_,_,_,rfl,rfl,SqT.of erw,rfl,_,rfl,rv,_,_,_,rfl,rfl,SqT.of ev,rfl,_,_,rfl,rfl,big_mul sw'.1 sv'.2,?_⟩
          refine ⟨_,rfl,rw_,_,_,_,rfl,rfl,SqT.of erw,rfl,_,rfl,rv,_,_,_,rfl,rfl,SqT.of ev,rfl,_,_,rfl,rfl,big_mul sw'.2 sv'.1,?_⟩
          refine ⟨_,_,rfl,Int.mul_nonneg (Rat.num_nonneg.mpr ww) (Int.le_of_lt (den_pos _)),Int.mul_pos (den_pos _) (num_pos.mpr c0),fun v4 H4 s4 hv4=>?_⟩
          rw [over_shareW c0] at hv4
          have hv4:IsW H4 v4 (thinW rs r):=by rw [thinW,if_pos c1]; exact hv4
          have f4:=s4 _ _ (s2 _ _ hf)
          have s04:=s02.trans s4
          refine ⟨_,rfl,.inl ⟨rfl,_,SqL.of f4⟩,_,rfl,pr,_,_,_,rfl,rfl,SqT.of (s04 _ _ e2),rfl,_,rfl,pr,_,_,_,rfl,rfl,SqT.of (s04 _ _ e2),rfl,_,rfl,(by show 3≤sizeLine; decide),fun t nt=>?_⟩
          obtain ⟨g1,g2⟩:=fin v4 o3 H4 s4 hv4 t nt
          exact ⟨fl,_,_,rfl,rfl,g1,lz,g2⟩
        · have c1:¬ 1 < shAll (frm r.f rs):=fun z=>by
            have:=le_one (q:=shAll (frm r.f rs))
            have:¬ (shAll (frm r.f rs)).num≤(shAll (frm r.f rs)).den:=fun y=>by have:=this.mp y; grind
            omega
          have hv4:IsW H2 (.ref rw_) (thinW rs r):=by rw [thinW,if_neg c1,← ew]; exact e3'
          have f4:=s2 _ _ hf
          refine ⟨_,rfl,.inl ⟨rfl,_,SqL.of f4⟩,_,rfl,pr,_,_,_,rfl,rfl,SqT.of (s02 _ _ e2),rfl,_,rfl,pr,_,_,_,rfl,rfl,SqT.of (s02 _ _ e2),rfl,_,rfl,(by show 3≤sizeLine; decide),fun t nt=>?_⟩
          obtain ⟨g1,g2⟩:=fin (.ref rw_) o3 H2 (Same.refl H2) hv4 t nt
          exact ⟨fl,_,_,rfl,rfl,g1,lz,g2⟩
    · rintro σ H' ⟨ys,o1,o2,o3,o4,rfl,s',hf,hyl,hy⟩
      have hlt:xs.length=(thin rs).length:=by unfold thin; rw [List.length_map]; exact hl
      rw [hlt,List.take_length] at hy
      exact ⟨_,rfl,q fl ys H' s' nf hf hy⟩
def spLNet (K:PySem.W.Frag):Sp:=fun vs H Q _=>∃ (sa:Addr) (ns:List Int) (at_ which m:Int) (most extra:Nat),vs=[.ref sa,.int at_,.int which,.int m,.int (most:Int),.int (extra:Int)]∧SqL K H sa (ns.map V.int)∧0≤at_∧0≤which∧which < 7∧1≤m∧m≤12∧1≤most∧most≤8∧extra≤64 ∧
  ∀ p l xs n rs H',Same H H'→H l=none→H' p=some (.tup [.int (n:Nat),.ref l])→H' l=some (.lst xs)→IsRoads H' xs rs→Good (kdOf which m) most extra n rs→Q (.ref p) H'
theorem log9 {i:Int} (h0:0≤i) (h:i < 1000000):i.natAbs.log2 < 9000:=by
  have z:(1000000:Nat) < 10 ^ 62:=by decide
  exact Nat.lt_trans (log2_small (by omega)) (by decide)
theorem bits8 {k:Int} (k0:0≤k) (k8:k≤8):Builtin.Int.intBits k≤Big:=by
  have z:(2:Nat) ^ 4=16:=by decide
  exact bits_le (Nat.lt_of_lt_of_le (show k.natAbs < 2 ^ 4 by omega) (Nat.pow_le_pow_right (by decide) (by decide)))
theorem modlt {i:Int} {m:Nat} (h:0 < m):∃ k:Nat,i % (m:Int)=k∧k < m:=⟨(i % m).toNat,by have:=Int.emod_nonneg i (show (m:Int)≠0 by omega); omega,by have:=Int.emod_lt_of_pos i (show (0:Int) < m by omega); have:=Int.emod_nonneg i (show (m:Int)≠0 by omega); omega⟩
theorem sc_law_net:FnScope ["script","at","which","m","most","extra","many","roads","k","cell","worth"] ["script","at","which","m","most","extra"] (defScope (top 32)):=⟨rfl,rfl,rfl,by decide +kernel,rfl,by decide +kernel,by decide +kernel⟩
theorem d_net (T:Tx K mg a) (D_law_cell_at:Dn P w K mg base 1 "_law_cell_at" ["script","k"] (spCell K)) (D_law_worth:Dn P w K mg base 34 "_law_worth" ["which","m","cell"] spWorth) (D_law_thinned:Dn P w K mg base 35 "_law_thinned" ["many","roads"] spThin)
    (F:DefAt K mg "_law_net" (top 32)):Dn P w K mg base 36 "_law_net" ["script","at","which","m","most","extra"] (spLNet K):=by
  obtain ⟨f,fd,hm,F⟩:=F.ex
  refine ⟨f,fd,hm,F.kp,F.binds fun _ _ _ _ _ _ us hl=>match us,hl with | [_,_,_,_,_,_],_=>rfl,?_⟩
  refine F.okN sc_law_net (fun vs H Q E h=>?_) (fun cdv A outer s H vs Q E hr h=>?_)
  · obtain ⟨_,_,_,_,_,_,_,rfl,_⟩:=h
    rfl
  · obtain ⟨sa,ns,at_,which,m,most,extra,rfl,hS,a0,w0,w7,m1,m12,mo1,mo8,ex64,q⟩:=h
    refine ⟨_,(pss_cons (ps_set (i:=6) sc_law_net.nd rfl (Or.inl rfl) (pe_op op_add pe_int (pe_op op_mod (pe_callD D_law_cell_at (hr.mono (by decide)) rfl passE0 (pa_cons (hs:=st_Name) (pv 0) (pa_cons (hs:=st_Name) (pv 1) pa_nil))) (pv 4))))
      (pss_cons (ps_set (i:=7) sc_law_net.nd rfl (Or.inl rfl) (pe_lst pa_nil))
      (pss_cons (ps_for PassesOwn.never rfl (pi_range1 rfl T.b_range (pa_cons (hs:=st_BinOp) (pe_op op_mod (pe_op op_fdivX (pe_callD D_law_cell_at (hr.mono (by decide)) rfl passE0 (pa_cons (hs:=st_Name) (pv 0) (pa_cons (hs:=st_Name) (pv 1) pa_nil))) (pv 4)) (pe_op op_add (pv 5) pe_int)) pa_nil)) (pg_name (i:=8) sc_law_net.nd rfl (Or.inl rfl)) (pss_cons (ps_set (i:=9) sc_law_net.nd rfl (Or.inl rfl) (pe_callD D_law_cell_at (hr.mono (by decide)) rfl passE0 (pa_cons (hs:=st_Name) (pv 0) (pa_cons (hs:=st_BinOp) (pe_op op_add (pe_op op_add (pv 1) pe_int) (pv 8)) pa_nil))))
      (pss_cons (ps_set (i:=10) sc_law_net.nd rfl (Or.inl rfl) (pe_callD D_law_worth (hr.mono (by decide)) rfl passE0 (pa_cons (hs:=st_Name) (pv 2) (pa_cons (hs:=st_Name) (pv 3) (pa_cons (hs:=st_BinOp) (pe_op op_fdivX (pv 9) (pe_op op_mulX (pv 6) (pv 6))) pa_nil)))))
      (pss_one (ps_expr (pe_bm PySem.F.plainAttrs_list PySem.F.slot_list_append PySem.F.type_list_append mt_append (pv 7) (pa_cons (hs:=st_Tuple) (pe_tup (pa_cons (hs:=st_BinOp) (pe_op op_mod (pv 9) (pv 6)) (pa_cons (hs:=st_BinOp) (pe_op op_mod (pe_op op_fdivX (pv 9) (pv 6)) (pv 6)) (pa_cons (hs:=st_Name) (pv 10) pa_nil)))) pa_nil)))))))
      (pss_cons (ps_if (pt_cmpR op_eq (pv 2) pe_int (nomark _)) (pss_one (ps_set (i:=7) sc_law_net.nd rfl (Or.inl rfl) (pe_callD D_law_thinned (hr.mono (by decide)) rfl passE0 (pa_cons (hs:=st_Name) (pv 6) (pa_cons (hs:=st_Name) (pv 7) pa_nil))))) pss_nil)
      (pss_one (ps_ret (pe_tup (pa_cons (hs:=st_Name) (pv 6) (pa_cons (hs:=st_Name) (pv 7) pa_nil))))))))),?_⟩
    obtain ⟨n0,en,ln⟩:=modlt (i:=ns.getD at_.toNat 0) (m:=most) (by omega)
    refine ⟨_,rfl,_,rfl,sa,ns,at_,rfl,hS,a0,_,rfl,_,_,rfl,rfl,(by show (0:Int) < most; omega),_,_,rfl,rfl,?_⟩
    dsimp only
    rw [en]
    obtain ⟨n,rfl⟩:∃ n:Nat,n=1 + n0:=⟨_,rfl⟩
    rw [show (1:Int) + (n0:Nat)=((1 + n0:Nat):Int) by omega]
    refine ⟨(by show 0≤sizeLine; decide),fun rl nl=>?_⟩
    obtain ⟨c,ec,lc⟩:=modlt (i:=ns.getD at_.toNat 0 / most) (m:=extra + 1) (by omega)
    have s1:Same H (upd H rl (.lst [])):=same_one nl
    refine ⟨_,rfl,_,rfl,sa,ns,at_,rfl,same_lst s1 hS,a0,_,rfl,_,_,rfl,rfl,⟨by show (0:Int) < most; omega,log9 (by omega) (by omega)⟩,?_⟩
    refine ⟨_,rfl,_,_,rfl,rfl,_,_,rfl,rfl,(by show (0:Int) < (extra:Int) + 1; omega),(c:Int),?_,by omega,by omega,?_⟩
    · show [V.int _]=[V.int _]
      rw [← ec]; rfl
    refine for_range (n:=(c:Int).toNat) (fun i σ H'=>∃ xs rs o1 o2 o3,σ=[some (.ref sa),some (.int at_),some (.int which),some (.int m),some (.int (most:Int)),some (.int (extra:Int)),some (.int ((1 + n0:Nat):Int)),some (.ref rl),o1,o2,o3]∧Same H H'∧H' rl=some (.lst xs)∧IsRoads H' xs rs∧xs.length=i ∧
      rs.all (endOk ((1 + n0:Nat):Int))=true∧∀ r∈rs,∃ c,r.w=worthW which m c) ⟨[],[],_,_,_,rfl,s1,upd_same,.nil,rfl,rfl,fun r hr=>nomatch hr⟩ ?_ ?_
    · rintro i σ H' hi ⟨xs,rs,o1,o2,o3,rfl,s',hf,hR,hln,he,hw⟩
      have hi:i < c:=by omega
      refine ⟨_,rfl,_,rfl,_,_,rfl,rfl,_,rfl,_,_,rfl,rfl,sa,ns,_,rfl,same_lst s' hS,by show 0≤at_ + 1 + (0 + (i:Int)); omega,?_⟩
      generalize ns.getD (at_ + 1 + (0 + (i:Int))).toNat 0=cell
      have nn:(1:Int)≤(1 + n0:Nat):=by omega
      have n9:((1 + n0:Nat):Int)≤8:=by omega
      have nm1:1≤((1 + n0:Nat):Int) * (1 + n0:Nat):=by have:=Int.mul_le_mul nn nn (by omega) (by omega); omega
      have nm2:((1 + n0:Nat):Int) * (1 + n0:Nat)≤64:=by have:=Int.mul_le_mul n9 n9 (by omega) (by omega); omega
      refine ⟨_,rfl,_,rfl,_,rfl,_,rfl,_,rfl,_,_,rfl,rfl,big_mul (bits8 (by omega) n9) (bits8 (by omega) n9),_,_,rfl,rfl,⟨by omega,log9 (by omega) (by omega)⟩,which,m,_,rfl,w0,w7,m1,m12,fun v H2 s2 hv=>?_⟩
      have f2:=s2 _ _ hf
      refine ⟨_,rfl,.inl ⟨rfl,_,SqL.of f2⟩,_,rfl,_,rfl,_,_,rfl,rfl,(by show (0:Int) < (1 + n0:Nat); omega),_,rfl,_,rfl,_,_,rfl,rfl,⟨by show (0:Int) < (1 + n0:Nat); omega,log9 (by omega) (by omega)⟩,_,rfl,_,_,rfl,rfl,(by show (0:Int) < (1 + n0:Nat); omega),_,rfl,(by show 3≤sizeLine; decide),fun t nt=>?_⟩
      have f3:=same_one (o:=.tup [.int (cell % ((1 + n0:Nat):Int)),.int (cell / ((1 + n0:Nat):Int) % ((1 + n0:Nat):Int)),v]) nt _ _ f2
      have s3:Same H2 (upd H2 t (.tup [.int (cell % ((1 + n0:Nat):Int)),.int (cell / ((1 + n0:Nat):Int) % ((1 + n0:Nat):Int)),v])):=same_one nt
      refine ⟨rl,_,_,rfl,rfl,f3,lines (by omega),xs ++ [.ref t],rs ++ [⟨cell % ((1 + n0:Nat):Int),cell / ((1 + n0:Nat):Int) % ((1 + n0:Nat):Int),worthW which m (cell / (((1 + n0:Nat):Int) * ((1 + n0:Nat):Int)))⟩],_,_,_,rfl,same_upd ((s'.trans s2).trans s3) nl,upd_same,?_,?_,?_,?_⟩
      · have st:=(same_st (s2.trans s3)).trans (stup_lst (o:=.lst (xs ++ [.ref t])) f3)
        exact Paired.snoc (hR.st st) ⟨t,v,rfl,stup_lst f3 _ _ upd_same,hv.st ((same_st s3).trans (stup_lst f3))⟩
      · rw [List.length_append,List.length_singleton,hln]
      · rw [List.all_append,he]
        have a1:=Int.emod_nonneg cell (show ((1 + n0:Nat):Int)≠0 by omega)
        have a2:=Int.emod_lt_of_pos cell (show (0:Int) < (1 + n0:Nat) by omega)
        have a3:=Int.emod_nonneg (cell / ((1 + n0:Nat):Int)) (show ((1 + n0:Nat):Int)≠0 by omega)
        have a4:=Int.emod_lt_of_pos (cell / ((1 + n0:Nat):Int)) (show (0:Int) < (1 + n0:Nat) by omega)
        simp only [List.all_cons,List.all_nil,Bool.and_true,Bool.true_and,endOk,Bool.and_eq_true,decide_eq_true_eq]
        exact ⟨⟨a1,a2⟩,a3,a4⟩
      · intro r hr
        rcases List.mem_append.mp hr with hr | hr
        · exact hw r hr
        · rw [List.mem_singleton.mp hr]; exact ⟨_,rfl⟩
    · rintro σ H' ⟨xs,rs,o1,o2,o3,rfl,s',hf,hR,hln,he,hw⟩
      have hl:=hR.length
      have G:=drawn_good (most:=most) (extra:=extra) (n:=1 + n0) w0 w7 m1 m12 (by omega) (by omega) (by omega) ex64 he hw
      refine ⟨_,rfl,rfl,_,rfl,iteEqI (fun e4=>?_) (fun e4=>?_)⟩
      · subst e4
        rw [if_pos rfl] at G
        refine ⟨_,rfl,_,rfl,_,rl,xs,rs,rfl,hf,hR,by omega,fun r hr=>?_,fun l ys H2 s2 nl2 hl2 hR2=>?_⟩
        · obtain ⟨c,e⟩:=hw r hr
          rw [e]
          exact ⟨isWorth_worth (which:=4) (by decide) (by decide) m1,sm_worthW m1 m12⟩
        · refine ⟨_,rfl,_,rfl,(by show 2≤sizeLine; decide),fun p np=>?_⟩
          have s3:Same H2 (upd H2 p (.tup [.int ((1 + n0:Nat):Int),.ref l])):=same_one np
          exact q p l ys (1 + n0) (thin rs) _ ((s'.trans s2).trans s3) (same_none s' nl2) upd_same (s3 _ _ hl2) (hR2.same s3) G
      · rw [if_neg e4] at G
        refine ⟨_,rfl,_,rfl,(by show 2≤sizeLine; decide),fun p np=>?_⟩
        have s3:Same H' (upd H' p (.tup [.int ((1 + n0:Nat):Int),.ref rl])):=same_one np
        exact q p rl xs (1 + n0) rs _ (s'.trans s3) nl upd_same (s3 _ _ hf) (hR.same s3) G
end
end K10
namespace K10
open PySem L2 Ws
seal PE PT PW PA PC PS PSs PG PGs PI PO PJ PTs
def IsVec (H:Hp) (kd:Kd) (B n:Nat) (ys:List V) (f:Nat→Car kd):Prop:=ys.length=n∧∀ i,i < n→∃ v,ys[i]?=some v∧IsW H v (enc kd (f i))∧Sm B (enc kd (f i))
theorem IsVec.st {H H':Hp} {kd:Kd} {B n:Nat} {ys:List V} {f:Nat→Car kd} (e:STup H H') (h:IsVec H kd B n ys f):IsVec H' kd B n ys f:=⟨h.1,fun i hi=>let ⟨v,a,b,c⟩:=h.2 i hi; ⟨v,a,b.st e,c⟩⟩
theorem IsVec.eq {H:Hp} {kd:Kd} {B n:Nat} {ys:List V} {f g:Nat→Car kd} (h:IsVec H kd B n ys f) (e:∀ i,i < n→f i=g i):IsVec H kd B n ys g:=⟨h.1,fun i hi=>by rw [← e i hi]; exact h.2 i hi⟩
theorem IsVec.set {H:Hp} {kd:Kd} {B n t:Nat} {ys:List V} {f:Nat→Car kd} {v:V} {x:Car kd} (h:IsVec H kd B n ys f) (hv:IsW H v (enc kd x)) (sv:Sm B (enc kd x)):IsVec H kd B n (ys.set t v) (fun i=>if i=t then x else f i):=by
  refine ⟨by rw [List.length_set]; exact h.1,fun i hi=>?_⟩
  by_cases c:i=t
  · subst c
    exact ⟨v,by rw [List.getElem?_set_self (by rw [h.1]; exact hi)],by show IsW H v (enc kd (if i=i then x else f i)); rw [if_pos rfl]; exact hv,by show Sm B (enc kd (if i=i then x else f i)); rw [if_pos rfl]; exact sv⟩
  · obtain ⟨u,a,b,d⟩:=h.2 i hi
    exact ⟨u,by rw [List.getElem?_set_ne (Ne.symm c)]; exact a,by show IsW H u (enc kd (if i=t then x else f i)); rw [if_neg c]; exact b,by show Sm B (enc kd (if i=t then x else f i)); rw [if_neg c]; exact d⟩
theorem IsVec.rep {H:Hp} {kd:Kd} {B n:Nat} {v:V} {x:Car kd} (hv:IsW H v (enc kd x)) (sv:Sm B (enc kd x)):IsVec H kd B n (List.replicate n v) (fun _=>x) :=
  ⟨List.length_replicate,fun i hi=>⟨v,by rw [List.getElem?_replicate,if_pos hi],hv,sv⟩⟩
theorem ixN_nat {n j:Nat} (h:j < n):ixN n (j:Int)=some j:=by
  unfold ixN
  rw [if_pos (by omega),if_pos (by omega)]; simp
theorem rep_flat (x:V) (k:Nat):(List.replicate k [x]).flatten=List.replicate k x:=by
  induction k with
  | zero=>rfl
  | succ k ih=>rw [List.replicate_succ,List.flatten_cons,ih]; rfl
section
variable {P : Program} {w : World} {K : PySem.W.Frag} {mg : Str → Option Value} {base : Heap} {a : Adr}
theorem stepV_take {S:Type} {M:KSR S} {es:List (Edge S)} {j:Nat} {e:Edge S} (h:es[j]?=some e) (f:Nat→S) (t:Nat):stepV M (es.take (j + 1)) f t=if t=e.t then M.add (stepV M (es.take j) f t) (M.mul (f e.f) e.c) else stepV M (es.take j) f t:=by
  unfold stepV
  rw [List.take_add_one,h,Option.toList_some,List.map_append,List.map_singleton,M.sum_snoc]
  unfold KSR.when
  by_cases c:t=e.t
  · rw [if_pos c.symm,if_pos c]
  · rw [if_neg (Ne.symm c),if_neg c,M.add_zero]
end
end K10
namespace K10
open PySem L2 Ws
end K10
namespace K10
open PySem L2 Ws
seal PE PT PW PA PC PS PSs PG PGs PI PO PJ PTs
abbrev TB:Nat:=2100000
structure IsMat (H:Hp) (kd:Kd) (n:Nat) (rl:Addr) (rs:List Addr) (A:Mat (Car kd)):Prop where
  top:H rl=some (.lst (rs.map V.ref))
  len:rs.length=n
  nd:rs.Nodup
  off:rl ∉ rs
  row:∀ i r,rs[i]?=some r→∃ ys,H r=some (.lst ys)∧IsVec H kd TB n ys (A i)
theorem IsMat.same {H H':Hp} {kd:Kd} {n:Nat} {rl:Addr} {rs:List Addr} {A:Mat (Car kd)} (e:Same H H') (h:IsMat H kd n rl rs A):IsMat H' kd n rl rs A :=
  ⟨e _ _ h.top,h.len,h.nd,h.off,fun i r hi=>let ⟨ys,a,b⟩:=h.row i r hi; ⟨ys,e _ _ a,b.st (same_st e)⟩⟩
theorem IsMat.eq {H:Hp} {kd:Kd} {n:Nat} {rl:Addr} {rs:List Addr} {A B:Mat (Car kd)} (h:IsMat H kd n rl rs A) (e:∀ i j,i < n→j < n→A i j=B i j):IsMat H kd n rl rs B :=
  ⟨h.top,h.len,h.nd,h.off,fun i r hi=>let ⟨ys,a,b⟩:=h.row i r hi; ⟨ys,a,b.eq fun j hj=>e i j (by have:=(List.getElem?_eq_some_iff.mp hi).1; rw [h.len] at this; exact this) hj⟩⟩
theorem nd_at {rs:List Addr} (h:rs.Nodup) {i j:Nat} {r:Addr} (a:rs[i]?=some r) (b:rs[j]?=some r):i=j:=by
  have li:=(List.getElem?_eq_some_iff.mp a).1
  exact (List.getElem?_inj li h).mp (a.trans b.symm)
theorem IsMat.set {H:Hp} {kd:Kd} {n:Nat} {rl r:Addr} {rs:List Addr} {A:Mat (Car kd)} {i t:Nat} {ys:List V} {v:V} {x:Car kd} (h:IsMat H kd n rl rs A) (hi:rs[i]?=some r) (hy:H r=some (.lst ys)) (hv:IsW H v (enc kd x)) (sv:Sm TB (enc kd x)) :
    IsMat (upd H r (.lst (ys.set t v))) kd n rl rs (fun a b=>if a=i∧b=t then x else A a b):=by
  have hrl:rl≠r:=fun z=>h.off (z ▸ List.mem_of_getElem? hi)
  refine ⟨by rw [upd_ne hrl]; exact h.top,h.len,h.nd,h.off,fun a b ha=>?_⟩
  by_cases c:a=i
  · subst c
    rw [hi] at ha; cases ha
    obtain ⟨ys',e1,e2⟩:=h.row a r hi
    rw [hy] at e1; cases e1
    refine ⟨_,upd_same,((e2.st (stup_lst hy)).set (t:=t) (hv.st (stup_lst hy)) sv).eq fun j _=>?_⟩
    by_cases d:j=t
    · rw [if_pos d,if_pos ⟨rfl,d⟩]
    · rw [if_neg d,if_neg (fun z=>d z.2)]
  · have nb:b≠r:=fun z=>c (nd_at h.nd ha (z ▸ hi))
    obtain ⟨ys',e1,e2⟩:=h.row a b ha
    refine ⟨ys',by rw [upd_ne nb]; exact e1,(e2.st (stup_lst hy)).eq fun j _=>?_⟩
    rw [if_neg (fun z=>c z.1)]
theorem mat_at {H:Hp} {kd:Kd} {n:Nat} {rl:Addr} {rs:List Addr} {A:Mat (Car kd)} (h:IsMat H kd n rl rs A) {i:Nat} (hi:i < n):∃ r ys,rs[i]?=some r∧atI (rs.map V.ref) (i:Int)=some (V.ref r)∧H r=some (.lst ys)∧IsVec H kd TB n ys (A i):=by
  have e:rs[i]?=some (rs[i]'(by rw [h.len]; exact hi)):=List.getElem?_eq_getElem _
  obtain ⟨ys,a,b⟩:=h.row i _ e
  exact ⟨_,ys,e,atI_nat (by rw [List.getElem?_map,e]; rfl),a,b⟩
section
variable {P : Program} {w : World} {K : PySem.W.Frag} {mg : Str → Option Value} {base : Heap} {a : Adr}
def spStraight (a:Adr):Sp:=fun vs H Q _=>∃ (np kp tp:Addr) (kd:Kd) (ok:KdOk kd) (n:Nat) (xs:List V) (es:List (Edge (Car kd))),vs=[.ref np]∧NetIs a H np kd n kp tp xs (es.map (Edge.road kd))∧HasK kd∧Graph kd n es∧es.length≤64 ∧
  ∀ rl rs H',Same H H'→IsMat H' kd n rl rs (edgeM (ks kd ok) es)→Q (.ref rl) H'
theorem sc_straight:FnScope ["net","kind","rows","road","row"] ["net"] (defScope (top 18)):=⟨rfl,rfl,rfl,by decide +kernel,rfl,by decide +kernel,by decide +kernel⟩
theorem d_straight (T:Tx K mg a) (V_kind:Mth P w K mg base 1 (fun _:Unit=>a.cNet) "kind" ["self"] (fun _=>spNKind a)) (V_places:Mth P w K mg base 1 (fun _:Unit=>a.cNet) "places" ["self"] (fun _=>spNPlaces a)) (V_roads:Mth P w K mg base 1 (fun _:Unit=>a.cNet) "roads" ["self"] (fun _=>spNRoads a))
    (V_none:Mth P w K mg base 1 a.cl "none" ["self"] (fun i=>spZero a i.1)) (V_together:Mth P w K mg base 35 a.cl "together" ["self","one","other"] (fun i=>spAdd a i.1)) (F:DefAt K mg "straight" (top 18)):Dn P w K mg base 36 "straight" ["net"] (spStraight a):=by
  obtain ⟨f,fd,hm,F⟩:=F.ex
  refine ⟨f,fd,hm,F.kp,F.binds fun _ _ _ _ _ _ us hl=>match us,hl with | [_],_=>rfl,?_⟩
  refine F.okN sc_straight (fun vs H Q E h=>?_) (fun cdv A outer s H vs Q E hr h=>?_)
  · obtain ⟨_,_,_,_,_,_,_,_,rfl,_⟩:=h
    rfl
  · obtain ⟨np,kp,tp,kd,ok,n,xs,es,rfl,N,hK,G,h64,q⟩:=h
    refine ⟨_,(pss_cons (ps_set (i:=1) sc_straight.nd rfl (Or.inr rfl) (pe_methV0 (pv 0) V_kind (hr.mono (by decide)) passE0))
      (pss_cons (ps_setC (i:=2) sc_straight.nd rfl rfl (N:=["net","kind","rows","road","row"]) (osc:=defScope (top 18)) (k:=1) (N':=["place","net","kind"]) (fr:=[0,1]) ⟨rfl,by decide +kernel,by decide +kernel,by decide +kernel,rfl,by decide +kernel,by decide +kernel⟩ rfl rfl rfl (pi_range1 rfl T.b_range (pa_cons (hs:=st_Call) (pe_methV0 (pv 0) V_places (hr.mono (by decide)) passE0) pa_nil)) (fun ca=>⟨(pg_name (i:=0) (show List.Nodup (["place","net","kind"]:List Str) from by decide +kernel) rfl (Or.inl rfl)),pts_nil,(pe_op op_rep (pe_lst (pa_cons (hs:=st_Call) (pe_methV0 (pv 2) V_none (hr.mono (by decide)) passE0) pa_nil)) (pe_methV0 (pv 1) V_places (hr.mono (by decide)) passE0))⟩))
      (pss_cons (ps_for PassesOwn.never rfl (pi_list (pe_methV0 (pv 0) V_roads (hr.mono (by decide)) passE0)) (pg_name (i:=3) sc_straight.nd rfl (Or.inl rfl)) (pss_cons (ps_set (i:=4) sc_straight.nd rfl (Or.inl rfl) (pe_ix ix_list (pv 2) (pe_ix ix_tup (pv 3) pe_int (fun _ _=>rfl)) (fun _ _=>rfl)))
      (pss_one (ps_asg (pe_methV (pv 1) V_together (hr.mono (by decide)) passE0 (pa_cons (hs:=st_Subscript) (pe_ix ix_list (pv 4) (pe_ix ix_tup (pv 3) pe_int (fun _ _=>rfl)) (fun _ _=>rfl)) (pa_cons (hs:=st_Subscript) (pe_ix ix_tup (pv 3) pe_int (fun _ _=>rfl)) pa_nil))) (pg_sub (pv 4) (pe_ix ix_tup (pv 3) pe_int (fun _ _=>rfl)) set_list)))))
      (pss_one (ps_ret (pv 2)))))),?_⟩
    obtain ⟨dx,hx⟩:=N.ins
    obtain ⟨kdx,hk⟩:=N.kind
    have nb:=G.nb
    have hl:xs.length=es.length:=by rw [N.rds.length,List.length_map]
    refine ⟨_,rfl,(),np,dx,_,rfl,hx,rfl,np,kp,tp,kd,n,xs,_,rfl,N,?_⟩
    dsimp only [gName]
    refine seqK (fun σ H'=>∃ rl rs,σ=[some (.ref np),some (.ref kp),some (.ref rl),none,none]∧Same H H'∧(∀ r∈rs,H r=none)∧H rl=none∧IsMat H' kd n rl rs (fun _ _=>(ks kd ok).zero)) (fun nx kk=>?_) ?_
    · refine ⟨_,rfl,(),np,dx,_,rfl,hx,rfl,np,kp,tp,kd,n,xs,_,rfl,N,(n:Int),rfl,by omega,by omega,comp_range (n:=(n:Int).toNat) (fun j ys H'=>Same H H'∧∃ rs:List Addr,ys=rs.map V.ref∧rs.length=j∧rs.Nodup∧(∀ r∈rs,H r=none)∧∀ r∈rs,∃ zs,H' r=some (.lst zs)∧IsVec H' kd TB n zs (fun _=>(ks kd ok).zero)) (lines (by omega)) ⟨Same.refl H,[],rfl,rfl,List.nodup_nil,(fun r hr=>by cases hr),(fun r hr=>by cases hr)⟩ ?_ ?_⟩
      · rintro j ys H' hj ⟨s',rs,rfl,hlen,hnd,hnew,hrow⟩ ca
        refine ⟨⟨rfl,rfl⟩,?_⟩
        refine ⟨_,rfl,⟨kd,hK⟩,kp,kdx,_,rfl,s' _ _ hk,kfs_no _ (by decide +kernel),kp,ok,rfl,⟨kdx,s' _ _ hk⟩,fun v5 H5 s5 w5=>?_⟩
        refine ⟨(by show 1≤sizeLine; decide),fun l5 m5=>?_⟩
        have u5:=same_one (o:=.lst [v5]) m5
        have s06:=(s'.trans s5).trans u5
        refine ⟨_,rfl,(),np,dx,_,rfl,s06 _ _ hx,rfl,np,kp,tp,kd,n,xs,_,rfl,N.same s06,l5,_,_,rfl,rfl,upd_same,by show -(2 ^ 63)≤(n:Int); omega,by show (n:Int) < 2 ^ 63; omega,Nat.le_of_lt (lines (by show 1 * (n:Int).toNat≤1000; omega)),fun l6 m6=>?_⟩
        have u6:=same_one (o:=.lst (List.replicate (n:Int).toNat [v5]).flatten) m6
        have z6:(upd (upd H5 l5 (.lst [v5])) l6 (.lst (List.replicate (n:Int).toNat [v5]).flatten)) l6=some (.lst (List.replicate n v5)):=by rw [upd_same,rep_flat]; rfl
        have s6:=s5.trans (u5.trans u6)
        have n6:H' l6=none:=same_none (s5.trans u5) m6
        refine ⟨s'.trans s6,rs ++ [l6],by rw [List.map_append]; rfl,by rw [List.length_append,List.length_singleton,hlen],?_,fun r hr=>?_,fun r hr=>?_⟩
        · rw [List.nodup_append]
          refine ⟨hnd,by simp,fun r hr b hb=>?_⟩
          rw [List.mem_singleton.mp hb]
          obtain ⟨zs,e1,_⟩:=hrow r hr
          exact ne_of_none e1 n6
        · rcases List.mem_append.mp hr with hr | hr
          · exact hnew r hr
          · rw [List.mem_singleton.mp hr]; exact same_none s' n6
        · rcases List.mem_append.mp hr with hr | hr
          · obtain ⟨zs,e1,e2⟩:=hrow r hr
            exact ⟨zs,s6 _ _ e1,e2.st (same_st s6)⟩
          · rw [List.mem_singleton.mp hr]
            exact ⟨_,z6,IsVec.rep (w5.same (u5.trans u6)) ((sm_zero kd ok).mono (by decide))⟩
      · rintro ys H' ⟨s',rs,rfl,hlen,hnd,hnew,hrow⟩ rl nrl
        rw [Int.toNat_natCast] at hlen
        have u1:=same_one (o:=.lst (rs.map V.ref)) nrl
        refine kk _ _ ⟨rl,rs,rfl,s'.trans u1,hnew,same_none s' nrl,upd_same,hlen,hnd,fun z=>?_,fun i r hi=>?_⟩
        · obtain ⟨zs,e1,_⟩:=hrow rl z
          rw [nrl] at e1; cases e1
        · obtain ⟨zs,e1,e2⟩:=hrow r (List.mem_of_getElem? hi)
          exact ⟨zs,u1 _ _ e1,e2.st (same_st u1)⟩
    rintro σ H1 ⟨rl,rs,rfl,s1,hnew,nrl,M1⟩
    refine ⟨_,rfl,(),np,dx,_,rfl,s1 _ _ hx,rfl,np,kp,tp,kd,n,xs,_,rfl,N.same s1,fun l2 nl2=>?_⟩
    have u2:=same_one (o:=.lst xs) nl2
    have M2:=M1.same u2
    have s2:=s1.trans u2
    have nl2H:H l2=none:=same_none s1 nl2
    refine ⟨l2,rfl,⟨xs,SqL.of upd_same⟩,for_list (xs:=xs) (fun j σ H'=>∃ (o3 o4:Option V),σ=[some (.ref np),some (.ref kp),some (.ref rl),o3,o4]∧Same H H'∧H' l2=some (.lst xs)∧IsMat H' kd n rl rs (fun i=>stepV (ks kd ok) (es.take j) (unitV (ks kd ok) i)))
      ⟨_,_,rfl,s2,upd_same,M2.eq fun i j _ _=>rfl⟩ (fun j σ H' _ ⟨_,_,_,_,h,_⟩=>SqL.of h) ?_ ?_⟩
    · rintro j x σ H' ex ⟨o3,o4,rfl,s',h2,M'⟩
      have hj:j < es.length:=by have:=(List.getElem?_eq_some_iff.mp ex).1; omega
      have ee:es[j]?=some es[j]:=List.getElem?_eq_getElem hj
      obtain ⟨r,er,pr,wv,rfl,f2,f3⟩:=pget N.rds ex
      rw [List.getElem?_map,ee] at er
      obtain rfl:Edge.road kd es[j]=r:=Option.some.inj er
      obtain ⟨g1,g2⟩:=G.ends es[j] (List.getElem_mem hj)
      have sme:=G.sm es[j] (List.getElem_mem hj)
      have fit:=G.fits (ok:=ok) h64 es[j].f (k:=1) (by decide)
      generalize es[j]=e at ee f2 f3 g1 g2 sme fit
      have t7:=s' _ _ f2
      obtain ⟨ra,ys,e1,e2,e3,e4⟩:=mat_at M' g1
      obtain ⟨vg,eg,wg,sg⟩:=e4.2 e.t g2
      refine ⟨_,rfl,_,rfl,pr,_,_,_,rfl,rfl,SqT.of t7,rfl,rl,_,_,_,rfl,rfl,SqL.of M'.top,e2,?_⟩
      refine ⟨_,rfl,⟨kd,hK⟩,kp,kdx,_,rfl,s' _ _ hk,kfs_no _ (by decide +kernel),_,rfl,_,rfl,pr,_,_,_,rfl,rfl,SqT.of t7,rfl,ra,_,_,_,rfl,rfl,SqL.of e3,atI_nat eg,_,rfl,pr,_,_,_,rfl,rfl,SqT.of t7,rfl,?_⟩
      refine ⟨kp,vg,wv,ok,_,e.c,rfl,⟨kdx,s' _ _ hk⟩,wg,f3.same s',sg.mono (by decide),sme.mono (by decide),fun v8 H8 s8 w8=>?_⟩
      have M8:=M'.same s8
      have e38:=s8 _ _ e3
      refine ⟨_,rfl,_,rfl,pr,_,_,_,rfl,rfl,SqT.of (s8 _ _ t7),rfl,ra,_,_,e.t,rfl,rfl,e38,(by rw [e4.1]; exact ixN_nat g2),?_⟩
      have nra:H ra=none:=hnew ra (List.mem_of_getElem? e1)
      have l2ra:l2≠ra:=fun z=>by
        have:=M1.row e.f ra e1
        obtain ⟨zs,q1,_⟩:=this
        rw [← z,nl2] at q1; cases q1
      have sadd:=fit.sum 0 (by decide) (j + 1) e.t
      have ev:∀ i b,stepV (ks kd ok) (es.take (j + 1)) (unitV (ks kd ok) i) b=if i=e.f∧b=e.t then (ks kd ok).add (stepV (ks kd ok) (es.take j) (unitV (ks kd ok) i) b) e.c else stepV (ks kd ok) (es.take j) (unitV (ks kd ok) i) b:=fun i b=>by
        rw [stepV_take ee]
        unfold unitV KSR.when
        by_cases c1:b=e.t
        · rw [if_pos c1]
          by_cases c2:i=e.f
          · rw [if_pos (show i=e.f∧b=e.t from ⟨c2,c1⟩),if_pos c2.symm,(ks kd ok).one_mul]
          · rw [if_neg (show ¬ (i=e.f∧b=e.t) from fun z=>c2 z.1),if_neg (Ne.symm c2),(ks kd ok).zero_mul,(ks kd ok).add_zero]
        · rw [if_neg c1,if_neg (show ¬ (i=e.f∧b=e.t) from fun z=>c1 z.2)]
      have sadd2:Sm TB (enc kd ((ks kd ok).add (stepV (ks kd ok) (es.take j) (unitV (ks kd ok) e.f) e.t) e.c)):=by
        have z:stepV (ks kd ok) (es.take (j + 1)) (stepsV (ks kd ok) es e.f 0) e.t=(ks kd ok).add (stepV (ks kd ok) (es.take j) (unitV (ks kd ok) e.f) e.t) e.c:=(ev e.f e.t).trans (if_pos ⟨rfl,rfl⟩)
        rw [z] at sadd; exact sadd.mono (by decide)
      refine ⟨_,_,rfl,same_upd (s'.trans s8) nra,by rw [upd_ne l2ra]; exact s8 _ _ h2,(M8.set (t:=e.t) e1 e38 w8 sadd2).eq fun i b _ _=>?_⟩
      rw [ev]
      by_cases c:i=e.f∧b=e.t
      · rw [if_pos c,if_pos c,c.1,c.2]
      · rw [if_neg c,if_neg c]
    · rintro σ H' ⟨o3,o4,rfl,s',h2,M'⟩
      rw [hl,List.take_length] at M'
      exact ⟨_,rfl,q rl rs H' s' M'⟩
def spLed (a:Adr):Sp:=fun vs H Q E=>∃ (kp rl:Addr) (kd:Kd) (ok:KdOk kd) (n k:Nat) (rs:List Addr) (A:Mat (Car kd)),vs=[.ref kp,.ref rl,.int (k:Int)]∧KindAt a H kp kd∧HasK kd∧n≤8∧k < n∧IsMat H kd n rl rs A ∧
  (∀ r,(ks kd ok).star (A k k)=some r→∀ i j,i < n→j < n→Sm TB (enc kd (ledA (ks kd ok) A k r i j)))∧((ks kd ok).star (A k k)=none→∀ H',Same H H'→False) ∧
  (∀ r,(ks kd ok).star (A k k)=some r→∀ rl' rs' H',Same H H'→H rl'=none→(∀ b∈rs',H b=none)→IsMat H' kd n rl' rs' (ledA (ks kd ok) A k r)→Q (.ref rl') H')
theorem sc_led_through:FnScope ["kind","rows","middle","onward","ring","led","row","toward"] ["kind","rows","middle"] (defScope (top 19)):=⟨rfl,rfl,rfl,by decide +kernel,rfl,by decide +kernel,by decide +kernel⟩
theorem d_led (T:Tx K mg a) (V_rounds:Mth P w K mg base 36 a.cl "rounds" ["self","one"] (fun i=>spStar a i.1)) (V_together:Mth P w K mg base 35 a.cl "together" ["self","one","other"] (fun i=>spAdd a i.1)) (V_behind:Mth P w K mg base 35 a.cl "behind" ["self","one","other"] (fun i=>spMul a i.1))
    (F:DefAt K mg "led_through" (top 19)):Dn P w K mg base 37 "led_through" ["kind","rows","middle"] (spLed a):=by
  obtain ⟨f,fd,hm,F⟩:=F.ex
  refine ⟨f,fd,hm,F.kp,F.binds fun _ _ _ _ _ _ us hl=>match us,hl with | [_,_,_],_=>rfl,?_⟩
  refine F.okX sc_led_through (fun vs H Q E h=>?_) (fun cdv A outer s H vs Q E hr h=>?_)
  · obtain ⟨_,_,_,_,_,_,_,_,rfl,_⟩:=h
    rfl
  · obtain ⟨kp,rl,kd,ok,n,k,rs,A,rfl,⟨kdx,hk⟩,hK,n8,hkn,MA,hsm,e,q⟩:=h
    refine ⟨_,(pss_cons (ps_set (i:=3) sc_led_through.nd rfl (Or.inr rfl) (pe_ix ix_list (pv 1) (pv 2) (fun _ _=>rfl)))
      (pss_cons (ps_set (i:=4) sc_led_through.nd rfl (Or.inl rfl) (pe_methV (pv 0) V_rounds (hr.mono (by decide)) pass_cx (pa_cons (hs:=st_Subscript) (pe_ix ix_list (pv 3) (pv 2) (fun _ _=>rfl)) pa_nil)))
      (pss_cons (ps_set (i:=5) sc_led_through.nd rfl (Or.inl rfl) (pe_lst pa_nil))
      (pss_cons (ps_for own_cx rfl (pi_list (pv 1)) (pg_name (i:=6) sc_led_through.nd rfl (Or.inl rfl)) (pss_cons (ps_set (i:=7) sc_led_through.nd rfl (Or.inr rfl) (pe_methV (pv 0) V_behind (hr.mono (by decide)) pass_cx (pa_cons (hs:=st_Subscript) (pe_ix ix_list (pv 6) (pv 2) (fun _ _=>rfl)) (pa_cons (hs:=st_Name) (pv 4) pa_nil))))
      (pss_one (ps_expr (pe_bm PySem.F.plainAttrs_list PySem.F.slot_list_append PySem.F.type_list_append mt_append (pv 5) (pa_cons (hs:=st_ListComp) (pe_comp (N:=["kind","rows","middle","onward","ring","led","row","toward"]) (osc:=defScope (top 19)) (k:=2) (N':=["at","worth","kind","toward","onward"]) (fr:=[0,7,3]) ⟨rfl,by decide +kernel,by decide +kernel,by decide +kernel,rfl,by decide +kernel,by decide +kernel⟩ rfl rfl rfl (pi_enum rfl T.b_enumerate (pa_cons (hs:=st_Name) (pv 6) pa_nil)) (fun ca=>⟨(pg_tup rfl (pgs_cons (pg_name (i:=0) (show List.Nodup (["at","worth","kind","toward","onward"]:List Str) from by decide +kernel) rfl (Or.inl rfl)) (pgs_cons (pg_name (i:=1) (show List.Nodup (["at","worth","kind","toward","onward"]:List Str) from by decide +kernel) rfl (Or.inl rfl)) pgs_nil))),pts_nil,(pe_methV (pv 2) V_together (hr.mono (by decide)) passE0 (pa_cons (hs:=st_Name) (pv 1) (pa_cons (hs:=st_Call) (pe_methV (pv 2) V_behind (hr.mono (by decide)) passE0 (pa_cons (hs:=st_Name) (pv 3) (pa_cons (hs:=st_Subscript) (pe_ix ix_list (pv 4) (pv 0) (fun _ _=>rfl)) pa_nil))) pa_nil)))⟩)) pa_nil))))))
      (pss_one (ps_ret (pv 5))))))),?_⟩
    obtain ⟨ra,ya,a1,a2,a3,a4⟩:=mat_at MA hkn
    obtain ⟨vk,ek,wk,sk⟩:=a4.2 k hkn
    refine ⟨_,rfl,_,rfl,rl,_,_,_,rfl,rfl,SqL.of MA.top,a2,?_⟩
    refine ⟨_,rfl,⟨kd,hK⟩,kp,kdx,_,rfl,hk,kfs_no _ (by decide +kernel),_,rfl,_,rfl,ra,_,_,_,rfl,rfl,SqL.of a3,atI_nat ek,?_⟩
    refine ⟨kp,vk,ok,_,rfl,⟨kdx,hk⟩,wk,sk.mono (by decide),fun r hr vr H1 s1 w1=>?_,e⟩
    have sr:=sm_star sk hr
    have q:=q r hr
    have hsm:=hsm r hr
    refine ⟨(by show 0≤sizeLine; decide),fun ll nll=>?_⟩
    have u2:=same_one (o:=.lst []) nll
    have s2:=s1.trans u2
    have M2:=MA.same s2
    have w2:=w1.same u2
    have nllH:H ll=none:=same_none s1 nll
    have z2:=upd_same (H:=H1) (a:=ll) (o:=.lst [])
    generalize upd H1 ll (.lst [])=H2 at u2 s2 M2 w2 z2
    have hrl:(rs.map V.ref).length=n:=by rw [List.length_map]; exact MA.len
    refine ⟨_,rfl,rl,rfl,⟨_,SqL.of M2.top⟩,for_list (xs:=rs.map V.ref) (fun i σ H'=>∃ (ts:List Addr) (o6 o7:Option V),σ=[some (.ref kp),some (.ref rl),some (.int (k:Int)),some (.ref ra),some vr,some (.ref ll),o6,o7]∧Same H H'∧IsW H' vr (enc kd r)∧H' ll=some (.lst (ts.map V.ref))∧ts.length=i∧ts.Nodup∧(∀ b∈ts,H b=none∧b≠ll)∧∀ j b,ts[j]?=some b→∃ zs,H' b=some (.lst zs)∧IsVec H' kd TB n zs (ledA (ks kd ok) A k r j))
      ⟨[],_,_,rfl,s2,w2,z2,rfl,List.nodup_nil,(fun b hb=>by cases hb),(fun j b hb=>by cases hb)⟩ (fun i σ H' _ ⟨_,_,_,_,s',_⟩=>SqL.of (s' _ _ MA.top)) ?_ ?_⟩
    · rintro i x σ H' ex ⟨ts,o6,o7,rfl,s',wr,hll,htl,hnd,hnew,hts⟩
      have hi:i < n:=by have:=(List.getElem?_eq_some_iff.mp ex).1; omega
      obtain ⟨rb,yb,b1,b2,b3,b4⟩:=mat_at MA hi
      obtain rfl:V.ref rb=x:=by
        rw [List.getElem?_map,b1] at ex; exact Option.some.inj ex
      obtain ⟨vb,eb,wb,sb⟩:=b4.2 k hkn
      have b3':=s' _ _ b3
      refine ⟨_,rfl,⟨kd,hK⟩,kp,kdx,_,rfl,s' _ _ hk,kfs_no _ (by decide +kernel),_,rfl,_,rfl,rb,_,_,_,rfl,rfl,SqL.of b3',atI_nat eb,_,rfl,?_⟩
      refine ⟨kp,vb,vr,ok,_,r,rfl,⟨kdx,s' _ _ hk⟩,wb.same s',wr,sb.mono (by decide),sr.mono (by decide),fun vt H3 s3 w3=>?_⟩
      have s03:=s'.trans s3
      have st:=sm_mul (ok:=ok) sb sr
      have b33:=s03 _ _ b3
      refine ⟨_,rfl,.inl ⟨rfl,_,SqL.of (s3 _ _ hll)⟩,?_⟩
      refine ⟨_,rfl,rb,rfl,⟨yb,SqL.of b33⟩,comp_enum (xs:=yb) (fun j zs H4=>Same H3 H4∧zs.length=j∧∀ b,b < j→∃ v,zs[b]?=some v∧IsW H4 v (enc kd (ledA (ks kd ok) A k r i b))) (lines (by rw [b4.1]; omega)) ⟨Same.refl H3,rfl,fun b hb=>absurd hb (Nat.not_lt_zero b)⟩ (fun j zs H4 _ ⟨s4,_⟩=>SqL.of (s4 _ _ b33)) ?_ ?_⟩
      · rintro j x zs H4 p exj ⟨s4,hzl,hz⟩ np ca
        have hj:j < n:=by have:=(List.getElem?_eq_some_iff.mp exj).1; rw [b4.1] at this; exact this
        obtain ⟨vj,ej,wj,sj⟩:=b4.2 j hj
        rw [ej] at exj
        obtain rfl:=Option.some.inj exj
        obtain ⟨vo,eo,wo,so⟩:=a4.2 j hj
        have u5:=same_one (o:=.tup [.int (j:Nat),vj]) np
        have s05:=(s03.trans s4).trans u5
        refine ⟨p,_,rfl,SqT.of upd_same,rfl,_,_,rfl,_,_,rfl,rfl,?_⟩
        refine ⟨⟨rfl,rfl⟩,?_⟩
        refine ⟨_,rfl,⟨kd,hK⟩,kp,kdx,_,rfl,s05 _ _ hk,kfs_no _ (by decide +kernel),_,rfl,_,rfl,⟨kd,hK⟩,kp,kdx,_,rfl,s05 _ _ hk,kfs_no _ (by decide +kernel),_,rfl,_,rfl,_,rfl,ra,_,_,_,rfl,rfl,SqL.of (s05 _ _ a3),atI_nat eo,?_⟩
        refine ⟨kp,vt,vo,ok,_,_,rfl,⟨kdx,s05 _ _ hk⟩,(w3.same s4).same u5,wo.same s05,st.mono (by decide),so.mono (by decide),fun vm H6 s6 w6=>?_⟩
        have sm:=sm_mul (ok:=ok) st so
        refine ⟨kp,vj,vm,ok,_,_,rfl,⟨kdx,(s05.trans s6) _ _ hk⟩,wj.same (s05.trans s6),w6,sj.mono (by decide),sm.mono (by decide),fun vf H7 s7 w7=>?_⟩
        have s47:=(u5.trans s6).trans s7
        refine ⟨s4.trans s47,by rw [List.length_append,List.length_singleton,hzl],fun b hb=>?_⟩
        by_cases c:b < j
        · obtain ⟨v,e1,e2⟩:=hz b c
          exact ⟨v,by rw [List.getElem?_append_left (by omega)]; exact e1,e2.same s47⟩
        · obtain rfl:b=j:=by omega
          exact ⟨vf,by rw [List.getElem?_append_right (by omega),hzl]; simp,w7⟩
      · rintro zs H4 ⟨s4,hzl,hz⟩ lz nlz
        rw [b4.1] at hzl hz
        have u5:=same_one (o:=.lst zs) nlz
        have s35:=s4.trans u5
        have hll5:=s35 _ _ (s3 _ _ hll)
        refine ⟨ll,_,_,rfl,rfl,hll5,lines (by rw [List.length_map]; omega),?_⟩
        have nlzH:H lz=none:=same_none (s03.trans s4) nlz
        have lzne:lz≠ll:=fun z=>by
          have:=s4 _ _ (s3 _ _ hll)
          rw [← z,nlz] at this; cases this
        have stp:=(same_st (s3.trans s35)).trans (stup_lst (o:=.lst (ts.map V.ref ++ [V.ref lz])) hll5)
        refine ⟨ts ++ [lz],_,_,rfl,same_upd (s03.trans s35) nllH,wr.st stp,by rw [upd_same,List.map_append]; rfl,by rw [List.length_append,List.length_singleton,htl],?_,fun b hb=>?_,fun j b hb=>?_⟩
        · rw [List.nodup_append]
          refine ⟨hnd,by simp,fun b hb c hc=>?_⟩
          rw [List.mem_singleton.mp hc]
          obtain ⟨j,hj⟩:=List.getElem?_of_mem hb
          obtain ⟨zs',q1,_⟩:=hts j b hj
          exact ne_of_none (s4 _ _ (s3 _ _ q1)) nlz
        · rcases List.mem_append.mp hb with hb | hb
          · exact hnew b hb
          · rw [List.mem_singleton.mp hb]; exact ⟨nlzH,lzne⟩
        · by_cases c:j < ts.length
          · rw [List.getElem?_append_left c] at hb
            obtain ⟨zs',q1,q2⟩:=hts j b hb
            have nb:=(hnew b (List.mem_of_getElem? hb)).2
            exact ⟨zs',by rw [upd_ne nb]; exact s35 _ _ (s3 _ _ q1),q2.st stp⟩
          · rw [List.getElem?_append_right (by omega)] at hb
            have hj0:j - ts.length=0:=by
              have:=(List.getElem?_eq_some_iff.mp hb).1
              rw [List.length_singleton] at this; omega
            rw [hj0] at hb
            obtain rfl:lz=b:=Option.some.inj hb
            obtain rfl:j=i:=by omega
            refine ⟨zs,by rw [upd_ne lzne]; exact upd_same,hzl,fun b hb=>?_⟩
            obtain ⟨v,q1,q2⟩:=hz b hb
            exact ⟨v,q1,(q2.same u5).st (stup_lst hll5),hsm j b hi hb⟩
    · rintro σ H' ⟨ts,o6,o7,rfl,s',wr,hll,htl,hnd,hnew,hts⟩
      rw [hrl] at htl
      exact ⟨_,rfl,q ll ts H' s' nllH (fun b hb=>(hnew b hb).1) ⟨hll,htl,hnd,fun z=>(hnew ll z).2 rfl,hts⟩⟩
def spTable (a:Adr):Sp:=fun vs H Q E=>∃ (np kp tp:Addr) (kd:Kd) (ok:KdOk kd) (n:Nat) (xs:List V) (es:List (Edge (Car kd))),vs=[.ref np]∧NetIs a H np kd n kp tp xs (es.map (Edge.road kd))∧HasK kd∧Graph kd n es∧es.length≤64∧TFits kd ok es n∧0 < n ∧
  (stageA (ks kd ok) (edgeM (ks kd ok) es) n=none→∀ H',Same H H'→False) ∧
  (∀ A,stageA (ks kd ok) (edgeM (ks kd ok) es) n=some A→∀ rl rs H',Same H H'→H rl=none→(∀ b∈rs,H b=none)→IsMat H' kd n rl rs (tabA (ks kd ok) A)→Q (.ref rl) H')
theorem sc_table:FnScope ["net","kind","rows","place"] ["net"] (defScope (top 20)):=⟨rfl,rfl,rfl,by decide +kernel,rfl,by decide +kernel,by decide +kernel⟩
theorem d_table (T:Tx K mg a) (V_kind:Mth P w K mg base 1 (fun _:Unit=>a.cNet) "kind" ["self"] (fun _=>spNKind a)) (V_places:Mth P w K mg base 1 (fun _:Unit=>a.cNet) "places" ["self"] (fun _=>spNPlaces a)) (V_rest:Mth P w K mg base 1 a.cl "rest" ["self"] (fun i=>spOne a i.1)) (V_together:Mth P w K mg base 35 a.cl "together" ["self","one","other"] (fun i=>spAdd a i.1))
    (D_straight:Dn P w K mg base 36 "straight" ["net"] (spStraight a)) (D_led_through:Dn P w K mg base 37 "led_through" ["kind","rows","middle"] (spLed a)) (F:DefAt K mg "table" (top 20)):Dn P w K mg base 38 "table" ["net"] (spTable a):=by
  obtain ⟨f,fd,hm,F⟩:=F.ex
  refine ⟨f,fd,hm,F.kp,F.binds fun _ _ _ _ _ _ us hl=>match us,hl with | [_],_=>rfl,?_⟩
  refine F.okX sc_table (fun vs H Q E h=>?_) (fun cdv A outer s H vs Q E hr h=>?_)
  · obtain ⟨_,_,_,_,_,_,_,_,rfl,_⟩:=h
    rfl
  · obtain ⟨np,kp,tp,kd,ok,n,xs,es,rfl,N,hK,G,h64,TF,n0,e,q⟩:=h
    refine ⟨_,(pss_cons (ps_set (i:=1) sc_table.nd rfl (Or.inl rfl) (pe_methV0 (pv 0) V_kind (hr.mono (by decide)) pass_cx))
      (pss_cons (ps_set (i:=2) sc_table.nd rfl (Or.inl rfl) (pe_callD D_straight (hr.mono (by decide)) rfl pass_cx (pa_cons (hs:=st_Name) (pv 0) pa_nil)))
      (pss_cons (ps_for own_cx rfl (pi_range1 rfl T.b_range (pa_cons (hs:=st_Call) (pe_methV0 (pv 0) V_places (hr.mono (by decide)) pass_cx) pa_nil)) (pg_name (i:=3) sc_table.nd rfl (Or.inl rfl)) (pss_one (ps_set (i:=2) sc_table.nd rfl (Or.inl rfl) (pe_callD D_led_through (hr.mono (by decide)) rfl pass_cx (pa_cons (hs:=st_Name) (pv 1) (pa_cons (hs:=st_Name) (pv 2) (pa_cons (hs:=st_Name) (pv 3) pa_nil)))))))
      (pss_cons (ps_for own_cx rfl (pi_range1 rfl T.b_range (pa_cons (hs:=st_Call) (pe_methV0 (pv 0) V_places (hr.mono (by decide)) pass_cx) pa_nil)) (pg_name (i:=3) sc_table.nd rfl (Or.inl rfl)) (pss_one (ps_asg (pe_methV (pv 1) V_together (hr.mono (by decide)) pass_cx (pa_cons (hs:=st_Call) (pe_methV0 (pv 1) V_rest (hr.mono (by decide)) pass_cx) (pa_cons (hs:=st_Subscript) (pe_ix ix_list (pe_ix ix_list (pv 2) (pv 3) (fun _ _=>rfl)) (pv 3) (fun _ _=>rfl)) pa_nil))) (pg_sub (pe_ix ix_list (pv 2) (pv 3) (fun _ _=>rfl)) (pv 3) set_list))))
      (pss_one (ps_ret (pv 2))))))),?_⟩
    obtain ⟨dx,hx⟩:=N.ins
    obtain ⟨kdx,hk⟩:=N.kind
    have nb:=G.nb
    refine ⟨_,rfl,(),np,dx,_,rfl,hx,rfl,np,kp,tp,kd,n,xs,_,rfl,N,?_⟩
    refine ⟨_,rfl,np,kp,tp,kd,ok,n,xs,es,rfl,N,hK,G,h64,fun rl0 rs0 H1 s1 M1=>?_⟩
    dsimp only [gName]
    refine seqK (fun σ H'=>∃ rl rs A o3,σ=[some (.ref np),some (.ref kp),some (.ref rl),o3]∧Same H H'∧(n=0∨(H rl=none∧∀ b∈rs,H b=none))∧stageA (ks kd ok) (edgeM (ks kd ok) es) n=some A∧IsMat H' kd n rl rs A) (fun nx kk=>?_) ?_
    · refine ⟨_,rfl,(),np,dx,_,rfl,s1 _ _ hx,rfl,np,kp,tp,kd,n,xs,_,rfl,N.same s1,(n:Int),rfl,by omega,by omega,for_range (n:=(n:Int).toNat) (fun i σ H'=>∃ rl rs A o3,σ=[some (.ref np),some (.ref kp),some (.ref rl),o3]∧Same H H'∧(i=0∨(H rl=none∧∀ b∈rs,H b=none))∧stageA (ks kd ok) (edgeM (ks kd ok) es) i=some A∧IsMat H' kd n rl rs A) ⟨rl0,rs0,_,_,rfl,s1,.inl rfl,rfl,M1⟩ ?_ ?_⟩
      · rintro i σ H' hi ⟨rl,rs,A,o3,rfl,s',hnew,hst,MA⟩
        have hi:i < n:=by omega
        have ei:(0 + (i:Int))=((i:Nat):Int):=by omega
        refine ⟨_,rfl,_,rfl,_,rfl,kp,rl,kd,ok,n,i,rs,A,(by rw [ei]),⟨kdx,s' _ _ hk⟩,hK,nb,hi,MA,fun r hr b c _ _=>(TF.sm (show i + 1≤n from hi) (stage_succ (ks kd ok) hst hr) b c).mono (by decide),fun hr H2 s2=>e (stage_none (ks kd ok) (show i + 1≤n from hi) (stage_fail (ks kd ok) hst hr)) H2 (s'.trans s2),fun r hr rl' rs' H2 s2 n1 n2 M2=>?_⟩
        exact ⟨rl',rs',_,_,rfl,s'.trans s2,.inr ⟨same_none s' n1,fun b hb=>same_none s' (n2 b hb)⟩,stage_succ (ks kd ok) hst hr,M2⟩
      · rintro σ H' ⟨rl,rs,A,o3,rfl,s',hnew,hst,MA⟩
        rw [Int.toNat_natCast] at hst hnew
        exact kk _ _ ⟨rl,rs,A,_,rfl,s',hnew,hst,MA⟩
    rintro σ H2 ⟨rl,rs,A,o3,rfl,s2,hnew,hst,MA⟩
    have smA:=TF.sm (Nat.le_refl n) hst
    have hnew:=hnew.resolve_left (by omega)
    refine ⟨_,rfl,(),np,dx,_,rfl,s2 _ _ hx,rfl,np,kp,tp,kd,n,xs,_,rfl,N.same s2,(n:Int),rfl,by omega,by omega,for_range (n:=(n:Int).toNat) (fun i σ H'=>∃ o3,σ=[some (.ref np),some (.ref kp),some (.ref rl),o3]∧Same H H'∧IsMat H' kd n rl rs (fun b c=>if b < i then tabA (ks kd ok) A b c else A b c)) ⟨_,rfl,s2,MA.eq fun b c _ _=>(if_neg (Nat.not_lt_zero b)).symm⟩ ?_ ?_⟩
    · rintro i σ H' hi ⟨o3,rfl,s',MI⟩
      have hi:i < n:=by omega
      have ei:(0 + (i:Int))=((i:Nat):Int):=by omega
      obtain ⟨ra,ya,a1,a2,a3,a4⟩:=mat_at MI hi
      obtain ⟨vi,evi,wvi,svi⟩:=a4.2 i hi
      dsimp only at wvi svi
      rw [if_neg (Nat.lt_irrefl i)] at wvi svi
      refine ⟨_,rfl,⟨kd,hK⟩,kp,kdx,_,rfl,s' _ _ hk,kfs_no _ (by decide +kernel),_,rfl,⟨kd,hK⟩,kp,kdx,_,rfl,s' _ _ hk,kfs_no _ (by decide +kernel),kp,ok,rfl,⟨kdx,s' _ _ hk⟩,fun vo H3 s3 w3=>?_⟩
      refine ⟨_,rfl,_,rfl,rl,_,_,_,rfl,rfl,SqL.of (s3 _ _ MI.top),(by rw [ei]; exact a2),_,rfl,ra,_,_,_,rfl,rfl,SqL.of (s3 _ _ a3),(by rw [ei]; exact atI_nat evi),?_⟩
      refine ⟨kp,vo,vi,ok,_,_,rfl,⟨kdx,(s'.trans s3) _ _ hk⟩,w3,wvi.same s3,(sm_one kd ok).mono (by decide),svi.mono (by decide),fun v4 H4 s4 w4=>?_⟩
      have s34:=s3.trans s4
      have M4:=MI.same s34
      have a34:=s34 _ _ a3
      refine ⟨_,rfl,_,rfl,rl,_,_,_,rfl,rfl,SqL.of M4.top,(by rw [ei]; exact a2),_,rfl,ra,_,_,i,rfl,rfl,a34,(by rw [a4.1,ei]; exact ixN_nat hi),?_⟩
      have sx:Sm TB (enc kd ((ks kd ok).add (ks kd ok).one (A i i))):=(sm_add (ok:=ok) (sm_one kd ok) (smA i i)).mono (by decide)
      refine ⟨_,rfl,same_upd (s'.trans s34) (hnew.2 ra (List.mem_of_getElem? a1)),(M4.set (t:=i) a1 a34 w4 sx).eq fun b c _ _=>?_⟩
      dsimp only
      by_cases h1:b < i
      · rw [if_neg (fun z=>by omega),if_pos h1,if_pos (by omega)]
      · rw [if_neg h1]
        by_cases h2:b=i
        · subst h2
          rw [if_pos (Nat.lt_succ_self b)]
          unfold tabA
          by_cases h3:b=c
          · subst h3
            rw [if_pos ⟨rfl,rfl⟩,if_pos rfl]
          · rw [if_neg (fun z=>h3 z.2.symm),if_neg h3]
        · rw [if_neg (fun z=>h2 z.1),if_neg (by omega)]
    · rintro σ H' ⟨o3,rfl,s',MI⟩
      rw [Int.toNat_natCast] at MI
      exact ⟨_,rfl,q A hst rl rs H' s' hnew.1 hnew.2 (MI.eq fun b c hb _=>if_pos hb)⟩
end
end K10
namespace K10
open PySem L2 Ws
seal PE PT PW PA PC PS PSs PG PGs PI PO PJ PTs
section
variable {P : Program} {w : World} {K : PySem.W.Frag} {mg : Str → Option Value} {base : Heap} {a : Adr}
def spLSteps:Sp:=fun vs H Q _=>∃ (kd:Kd) (ok:KdOk kd) (m:Int) (rl:Addr) (n p k:Nat) (xs:List V) (es:List (Edge (Car kd))),vs=[.int (kno kd),.int m,.int (n:Int),.ref rl,.int (p:Int),.int (k:Int)]∧MIs kd m∧H rl=some (.lst xs)∧IsRoads H xs (es.map (Edge.road kd))∧(∀ e∈es,e.f < n∧e.t < n∧Sm 200 (enc kd e.c))∧n≤8∧p < n∧k≤60∧Fits kd ok es p k 50000 ∧
  ∀ l ys H',Same H H'→H l=none→H' l=some (.lst ys)→IsVec H' kd 50000 n ys (stepsV (ks kd ok) es p k)→Q (.ref l) H'
theorem sc_law_steps:FnScope ["which","m","many","roads","place","count","row","step","fresh","road"] ["which","m","many","roads","place","count"] (defScope (top 33)):=⟨rfl,rfl,rfl,by decide +kernel,rfl,by decide +kernel,by decide +kernel⟩
theorem d_law_steps (T:Tx K mg a) (D_law_none:Dn P w K mg base 1 "_law_none" ["which"] spNone) (D_law_rest:Dn P w K mg base 1 "_law_rest" ["which"] spRest) (D_law_tog:Dn P w K mg base 34 "_law_tog" ["which","one","other"] spLTog) (D_law_beh:Dn P w K mg base 34 "_law_beh" ["which","m","one","other"] spLBeh)
    (F:DefAt K mg "_law_steps" (top 33)):Dn P w K mg base 35 "_law_steps" ["which","m","many","roads","place","count"] spLSteps:=by
  obtain ⟨f,fd,hm,F⟩:=F.ex
  refine ⟨f,fd,hm,F.kp,F.binds fun _ _ _ _ _ _ us hl=>match us,hl with | [_,_,_,_,_,_],_=>rfl,?_⟩
  refine F.okN sc_law_steps (fun vs H Q E h=>?_) (fun cdv A outer s H vs Q E hr h=>?_)
  · obtain ⟨_,_,_,_,_,_,_,_,_,rfl,_⟩:=h
    rfl
  · obtain ⟨kd,ok,m,rl,n,p,k,xs,es,rfl,hmi,hx,hR,hE,n8,hp,hk60,Ft,q⟩:=h
    refine ⟨_,(pss_cons (ps_setC (i:=6) sc_law_steps.nd rfl rfl (N:=["which","m","many","roads","place","count","row","step","fresh","road"]) (osc:=defScope (top 33)) (k:=1) (N':=["k","which"]) (fr:=[0]) ⟨rfl,by decide +kernel,by decide +kernel,by decide +kernel,rfl,by decide +kernel,by decide +kernel⟩ rfl rfl rfl (pi_range1 rfl T.b_range (pa_cons (hs:=st_Name) (pv 2) pa_nil)) (fun ca=>⟨(pg_name (i:=0) (show List.Nodup (["k","which"]:List Str) from by decide +kernel) rfl (Or.inl rfl)),pts_nil,(pe_callD D_law_none (hr.mono (by decide)) rfl passE0 (pa_cons (hs:=st_Name) (pv 1) pa_nil))⟩))
      (pss_cons (ps_asg (pe_callD D_law_rest (hr.mono (by decide)) rfl passE0 (pa_cons (hs:=st_Name) (pv 0) pa_nil)) (pg_sub (pv 6) (pv 4) set_list))
      (pss_cons (ps_for PassesOwn.never rfl (pi_range1 rfl T.b_range (pa_cons (hs:=st_Name) (pv 5) pa_nil)) (pg_name (i:=7) sc_law_steps.nd rfl (Or.inl rfl)) (pss_cons (ps_setC (i:=8) sc_law_steps.nd rfl rfl (N:=["which","m","many","roads","place","count","row","step","fresh","road"]) (osc:=defScope (top 33)) (k:=1) (N':=["k","which"]) (fr:=[0]) ⟨rfl,by decide +kernel,by decide +kernel,by decide +kernel,rfl,by decide +kernel,by decide +kernel⟩ rfl rfl rfl (pi_range1 rfl T.b_range (pa_cons (hs:=st_Name) (pv 2) pa_nil)) (fun ca=>⟨(pg_name (i:=0) (show List.Nodup (["k","which"]:List Str) from by decide +kernel) rfl (Or.inl rfl)),pts_nil,(pe_callD D_law_none (hr.mono (by decide)) rfl passE0 (pa_cons (hs:=st_Name) (pv 1) pa_nil))⟩))
      (pss_cons (ps_for PassesOwn.never rfl (pi_list (pv 3)) (pg_name (i:=9) sc_law_steps.nd rfl (Or.inl rfl)) (pss_one (ps_asg (pe_callD D_law_tog (hr.mono (by decide)) rfl passE0 (pa_cons (hs:=st_Name) (pv 0) (pa_cons (hs:=st_Subscript) (pe_ix ix_list (pv 8) (pe_ix ix_tup (pv 9) pe_int (fun _ _=>rfl)) (fun _ _=>rfl)) (pa_cons (hs:=st_Call) (pe_callD D_law_beh (hr.mono (by decide)) rfl passE0 (pa_cons (hs:=st_Name) (pv 0) (pa_cons (hs:=st_Name) (pv 1) (pa_cons (hs:=st_Subscript) (pe_ix ix_list (pv 6) (pe_ix ix_tup (pv 9) pe_int (fun _ _=>rfl)) (fun _ _=>rfl)) (pa_cons (hs:=st_Subscript) (pe_ix ix_tup (pv 9) pe_int (fun _ _=>rfl)) pa_nil))))) pa_nil)))) (pg_sub (pv 8) (pe_ix ix_tup (pv 9) pe_int (fun _ _=>rfl)) set_list))))
      (pss_one (ps_set (i:=6) sc_law_steps.nd rfl (Or.inl rfl) (pv 8))))))
      (pss_one (ps_ret (pv 6)))))),?_⟩
    have hl:xs.length=es.length:=by rw [hR.length,List.length_map]
    have z50:Sm 50000 (enc kd (ks kd ok).zero):=(sm_zero kd ok).mono (by decide)
    have nones:∀ (H1:Hp) (j:Nat) (ys:List V),Same H H1→j≤n→(ys.length=j∧∀ i,i < j→∃ v,ys[i]?=some v∧IsW H1 v (enc kd (ks kd ok).zero))→j=n→IsVec H1 kd 50000 n ys (fun _=>(ks kd ok).zero):=fun H1 j ys _ _ h e=>by
      subst e
      exact ⟨h.1,fun i hi=>let ⟨v,a,b⟩:=h.2 i hi; ⟨v,a,b,z50⟩⟩
    have more:∀ {H1 H2:Hp} {j:Nat} {ys:List V} {v:V},Same H1 H2→(ys.length=j∧∀ i,i < j→∃ v,ys[i]?=some v∧IsW H1 v (enc kd (ks kd ok).zero))→IsW H2 v (enc kd (ks kd ok).zero)→((ys ++ [v]).length=j + 1∧∀ i,i < j + 1→∃ u,(ys ++ [v])[i]?=some u∧IsW H2 u (enc kd (ks kd ok).zero)):=fun {H1 H2 j ys v} s12 h hv=>by
      refine ⟨by rw [List.length_append,List.length_singleton,h.1],fun i hi=>?_⟩
      by_cases c:i < j
      · obtain ⟨u,a,b⟩:=h.2 i c
        exact ⟨u,by rw [List.getElem?_append_left (by rw [h.1]; exact c)]; exact a,b.same s12⟩
      · obtain rfl:i=j:=by omega
        exact ⟨v,by rw [List.getElem?_append_right (by rw [h.1]; exact Nat.le_refl _),h.1]; simp,hv⟩
    refine seqK (fun σ H'=>∃ l ys,σ=[some (.int (kno kd)),some (.int m),some (.int (n:Int)),some (.ref rl),some (.int (p:Int)),some (.int (k:Int)),some (.ref l),none,none,none]∧Same H H'∧H l=none∧H' l=some (.lst ys)∧IsVec H' kd 50000 n ys (fun _=>(ks kd ok).zero)) (fun nx kk=>?_) ?_
    · refine ⟨_,rfl,(n:Int),rfl,by omega,by omega,comp_range (n:=(n:Int).toNat) (fun j ys H'=>Same H H'∧(ys.length=j∧∀ i,i < j→∃ v,ys[i]?=some v∧IsW H' v (enc kd (ks kd ok).zero))) (lines (by omega)) ⟨Same.refl H,rfl,fun i hi=>absurd hi (Nat.not_lt_zero i)⟩ ?_ ?_⟩
      · rintro j ys H' hj ⟨s',hy⟩ ca
        refine ⟨⟨rfl,rfl⟩,_,rfl,kno kd,rfl,kno_lo kd,kno_hi kd,fun v H2 s2 w2=>?_⟩
        rw [noneW_kno kd ok] at w2
        exact ⟨s'.trans s2,more s2 hy w2⟩
      · rintro ys H' ⟨s',hy⟩ l nl
        rw [Int.toNat_natCast] at hy
        exact kk _ _ ⟨l,ys,rfl,s'.trans (same_one nl),same_none s' nl,upd_same,(nones H' n ys s' (Nat.le_refl _) hy rfl).st (same_st (same_one nl))⟩
    rintro σ H1 ⟨l1,ys1,rfl,s1,n1,z1,v1⟩
    refine ⟨_,rfl,kno kd,rfl,kno_lo kd,kno_hi kd,fun rv H2 s2 w2=>?_⟩
    rw [restW_kno kd ok] at w2
    have z2:=s2 _ _ z1
    refine ⟨_,rfl,_,rfl,l1,_,_,p,rfl,rfl,z2,(by rw [v1.1]; exact ixN_nat hp),?_⟩
    have s4:Same H (upd H2 l1 (.lst (ys1.set p rv))):=same_upd (s1.trans s2) n1
    have vec0:IsVec (upd H2 l1 (.lst (ys1.set p rv))) kd 50000 n (ys1.set p rv) (stepsV (ks kd ok) es p 0):=by
      refine (((v1.st (same_st s2)).st (stup_lst z2)).set (w2.st (stup_lst z2)) ((sm_one kd ok).mono (by decide))).eq fun i hi=>?_
      show _=(ks kd ok).when (i=p) (ks kd ok).one
      unfold KSR.when
      rfl
    have z4:(upd H2 l1 (.lst (ys1.set p rv))) l1=some (.lst (ys1.set p rv)):=upd_same
    generalize upd H2 l1 (.lst (ys1.set p rv))=H4 at s4 vec0 z4
    generalize ys1.set p rv=ys0 at vec0 z4
    refine ⟨_,rfl,(k:Int),rfl,by omega,by omega,for_range (n:=(k:Int).toNat) (fun i σ H'=>∃ (l:Addr) (ys:List V) (o7 o8 o9:Option V),σ=[some (.int (kno kd)),some (.int m),some (.int (n:Int)),some (.ref rl),some (.int (p:Int)),some (.int (k:Int)),some (.ref l),o7,o8,o9]∧Same H H'∧H l=none∧H' l=some (.lst ys)∧IsVec H' kd 50000 n ys (stepsV (ks kd ok) es p i))
      ⟨l1,ys0,_,_,_,rfl,s4,n1,z4,vec0⟩ ?_ ?_⟩
    · rintro i σ H' hi ⟨l,ys,o7,o8,o9,rfl,s',nl,hy,vy⟩
      have hi:i < k:=by omega
      refine seqK (fun σ H2=>∃ l6 fs,σ=[some (.int (kno kd)),some (.int m),some (.int (n:Int)),some (.ref rl),some (.int (p:Int)),some (.int (k:Int)),some (.ref l),some (.int (0 + (i:Int))),some (.ref l6),o9]∧Same H' H2∧H' l6=none∧H2 l6=some (.lst fs)∧IsVec H2 kd 50000 n fs (fun _=>(ks kd ok).zero)) (fun nx kk=>?_) ?_
      · refine ⟨_,rfl,(n:Int),rfl,by omega,by omega,comp_range (n:=(n:Int).toNat) (fun j ys H2=>Same H' H2∧(ys.length=j∧∀ i,i < j→∃ v,ys[i]?=some v∧IsW H2 v (enc kd (ks kd ok).zero))) (lines (by omega)) ⟨Same.refl H',rfl,fun i hi=>absurd hi (Nat.not_lt_zero i)⟩ ?_ ?_⟩
        · rintro j ys H2 hj ⟨s2,hy⟩ ca
          refine ⟨⟨rfl,rfl⟩,_,rfl,kno kd,rfl,kno_lo kd,kno_hi kd,fun v H3 s3 w3=>?_⟩
          rw [noneW_kno kd ok] at w3
          exact ⟨s2.trans s3,more s3 hy w3⟩
        · rintro ys H2 ⟨s2,hy⟩ l6 nl6
          rw [Int.toNat_natCast] at hy
          exact kk _ _ ⟨l6,ys,rfl,s2.trans (same_one nl6),same_none s2 nl6,upd_same,(nones H2 n ys (s'.trans s2) (Nat.le_refl _) hy rfl).st (same_st (same_one nl6))⟩
      rintro σ H6 ⟨l6,fs0,rfl,s6,n6,z6,vec6⟩
      refine ⟨_,rfl,rl,rfl,⟨xs,SqL.of (s6 _ _ (s' _ _ hx))⟩,for_list (xs:=xs) (fun j σ H7=>∃ (fs:List V) (o9:Option V),σ=[some (.int (kno kd)),some (.int m),some (.int (n:Int)),some (.ref rl),some (.int (p:Int)),some (.int (k:Int)),some (.ref l),some (.int (0 + (i:Int))),some (.ref l6),o9]∧Same H' H7∧H7 l6=some (.lst fs)∧IsVec H7 kd 50000 n fs (stepV (ks kd ok) (es.take j) (stepsV (ks kd ok) es p i)))
        ⟨_,_,rfl,s6,z6,vec6.eq fun j _=>rfl⟩ (fun j σ H7 _ ⟨_,_,_,s7,_⟩=>SqL.of (s7 _ _ (s' _ _ hx))) ?_ ?_⟩
      · rintro j x σ H7 ex ⟨fs,o9,rfl,s7,hf,vf⟩
        have hj:j < es.length:=by have:=(List.getElem?_eq_some_iff.mp ex).1; omega
        have ee:es[j]?=some es[j]:=List.getElem?_eq_getElem hj
        obtain ⟨r,er,pr,wv,rfl,f2,f3⟩:=pget hR ex
        rw [List.getElem?_map,ee] at er
        obtain rfl:Edge.road kd es[j]=r:=Option.some.inj er
        obtain ⟨g1,g2,g3⟩:=hE es[j] (List.getElem_mem hj)
        have fm:=Ft.mul i hi es[j] (List.getElem_mem hj)
        generalize es[j]=e at ee f2 f3 g1 g2 g3 fm
        have s07:=s'.trans s7
        have t7:=s07 _ _ f2
        obtain ⟨vv,ev,wv',sv⟩:=vy.2 e.f g1
        obtain ⟨vg,eg,wg,sg⟩:=vf.2 e.t g2
        refine ⟨_,rfl,_,rfl,_,rfl,pr,_,_,_,rfl,rfl,SqT.of t7,rfl,l6,_,_,_,rfl,rfl,SqL.of hf,atI_nat eg,?_⟩
        refine ⟨_,rfl,_,rfl,_,rfl,_,rfl,pr,_,_,_,rfl,rfl,SqT.of t7,rfl,l,_,_,_,rfl,rfl,SqL.of (s7 _ _ hy),atI_nat ev,_,rfl,pr,_,_,_,rfl,rfl,SqT.of t7,rfl,?_⟩
        refine ⟨kd,ok,m,vv,wv,_,e.c,rfl,hmi,wv'.same s7,f3.same s07,sv.mono (by decide),g3.mono (by decide),fun v8 H8 s8 w8=>?_⟩
        have hf8:=s8 _ _ hf
        refine ⟨kd,ok,vg,v8,_,_,rfl,wg.same s8,w8,sg.mono (by decide),fm.mono (by decide),fun v9 H9 s9 w9=>?_⟩
        have hf9:=s9 _ _ hf8
        refine ⟨_,rfl,_,rfl,pr,_,_,_,rfl,rfl,SqT.of (s9 _ _ (s8 _ _ t7)),rfl,l6,_,_,e.t,rfl,rfl,hf9,(by rw [vf.1]; exact ixN_nat g2),?_⟩
        refine ⟨_,_,rfl,same_upd ((s7.trans s8).trans s9) n6,upd_same,?_⟩
        have sadd:=Ft.sum i hi (j + 1) e.t
        rw [stepV_take ee,if_pos rfl] at sadd
        refine ((vf.st ((same_st (s8.trans s9)).trans (stup_lst hf9))).set (t:=e.t) (w9.st (stup_lst hf9)) sadd).eq fun b hb=>?_
        rw [stepV_take ee]
        by_cases c:b=e.t
        · subst c; rfl
        · simp only [if_neg c]
      · rintro σ H7 ⟨fs,o9,rfl,s7,hf,vf⟩
        rw [hl,List.take_length] at vf
        exact ⟨_,rfl,l6,fs,_,_,_,rfl,s'.trans s7,same_none s' n6,hf,vf⟩
    · rintro σ H' ⟨l,ys,o7,o8,o9,rfl,s',nl,hy,vy⟩
      rw [Int.toNat_natCast] at vy
      exact ⟨_,rfl,q l ys H' s' nl hy vy⟩
end
end K10
namespace K10
open PySem L2 Ws
seal PE PT PW PA PC PS PSs PG PGs PI PO PJ PTs
section
variable {P : Program} {w : World} {K : PySem.W.Frag} {mg : Str → Option Value} {base : Heap} {a : Adr}
abbrev okN:KdOk .counted:=trivial
def bls (n:Nat) (f:Nat→Bool):List V:=(List.range n).map fun j=>V.bl (f j)
theorem bls_len (n:Nat) (f:Nat→Bool):(bls n f).length=n:=by unfold bls; rw [List.length_map,List.length_range]
theorem bls_get {n j:Nat} {f:Nat→Bool} (h:j < n):(bls n f)[j]?=some (V.bl (f j)):=by
  unfold bls
  rw [List.getElem?_map,List.getElem?_range h]; rfl
structure IsB (H:Hp) (n:Nat) (ml:Addr) (rs:List Addr) (B:Nat→Nat→Bool):Prop where
  top:H ml=some (.lst (rs.map V.ref))
  len:rs.length=n
  nd:rs.Nodup
  off:ml ∉ rs
  row:∀ i r,rs[i]?=some r→H r=some (.lst (bls n (B i)))
theorem IsB.same {H H':Hp} {n:Nat} {ml:Addr} {rs:List Addr} {B:Nat→Nat→Bool} (h:IsB H n ml rs B) (e:Same H H'):IsB H' n ml rs B:=⟨e _ _ h.top,h.len,h.nd,h.off,fun i r hr=>e _ _ (h.row i r hr)⟩
theorem IsB.get {H:Hp} {n i:Nat} {ml:Addr} {rs:List Addr} {B:Nat→Nat→Bool} (h:IsB H n ml rs B) (hi:i < n):∃ r,rs[i]?=some r∧atI (rs.map V.ref) (i:Int)=some (.ref r)∧H r=some (.lst (bls n (B i))):=by
  have hl:i < rs.length:=by rw [h.len]; exact hi
  have e:rs[i]?=some rs[i]:=List.getElem?_eq_getElem hl
  exact ⟨rs[i],e,atI_nat (by rw [List.getElem?_map,e]; rfl),h.row i _ e⟩
def setB (B:Nat→Nat→Bool) (i t:Nat):Nat→Nat→Bool:=fun x y=>if x=i∧y=t then true else B x y
theorem IsB.set {H:Hp} {n i t:Nat} {ml r:Addr} {rs:List Addr} {B:Nat→Nat→Bool} (h:IsB H n ml rs B) (hr:rs[i]?=some r):IsB (upd H r (.lst ((bls n (B i)).set t (V.bl true)))) n ml rs (setB B i t):=by
  have rm:r∈rs:=List.mem_of_getElem? hr
  refine ⟨by rw [upd_ne (fun z=>h.off (by rw [z]; exact rm))]; exact h.top,h.len,h.nd,h.off,fun j q hq=>?_⟩
  by_cases c:q=r
  · subst c
    obtain rfl:j=i:=by
      have h1:=(List.getElem?_eq_some_iff.mp hr).1
      exact ((List.getElem?_inj h1 h.nd).mp (hr.trans hq.symm)).symm
    rw [upd_same]
    congr 2
    apply List.ext_getElem
    · rw [List.length_set,bls_len,bls_len]
    · intro k h1 h2
      rw [bls_len] at h2
      have e1:((bls n (B j)).set t (V.bl true))[k]?=(bls n (setB B j t j))[k]?:=by
        rw [bls_get h2,List.getElem?_set]
        by_cases ck:t=k
        · subst ck
          rw [if_pos rfl,if_pos (by rw [bls_len]; exact h2)]
          show some (V.bl true)=some (V.bl (if _ then true else _))
          rw [if_pos ⟨rfl,rfl⟩]
        · rw [if_neg ck,bls_get h2]
          show some (V.bl (B j k))=some (V.bl (if _ then true else _))
          rw [if_neg (fun z=>ck z.2.symm)]
      rw [List.getElem?_eq_getElem h1,List.getElem?_eq_getElem (by rw [bls_len]; exact h2)] at e1
      exact Option.some.inj e1
  · rw [upd_ne c]
    have:=h.row j q hq
    rw [this]
    have ne:j≠i:=fun z=>c (by subst z; exact Option.some.inj (hq.symm.trans hr))
    congr 2
    unfold bls
    refine List.map_congr_left fun k _=>?_
    show V.bl (B j k)=V.bl (if _ then true else _)
    rw [if_neg (fun z=>ne z.1)]
def pairsL (n:Nat):List (Nat × Nat):=(List.range n).flatMap fun i=>(List.range n).map fun j=>(i,j)
def falses (n:Nat) (B:Nat→Nat→Bool):Nat:=(pairsL n).countP fun p=>!B p.1 p.2
theorem countP_lt {α:Type} {p q:α→Bool}:∀ {l:List α},(∀ x∈l,p x=true→q x=true)→(∃ x∈l,q x=true∧¬ p x=true)→l.countP p < l.countP q
  | [],_,⟨x,h,_⟩=>nomatch h
  | y :: l,h,⟨x,hx,h1,h2⟩=>by
    rw [List.countP_cons,List.countP_cons]
    have le:l.countP p≤l.countP q:=List.countP_mono_left fun z hz=>h z (List.mem_cons_of_mem _ hz)
    have hy:=h y List.mem_cons_self
    rcases List.mem_cons.mp hx with e | hx
    · subst e
      rw [if_neg h2,if_pos h1]; omega
    · have:=countP_lt (fun z hz=>h z (List.mem_cons_of_mem _ hz)) ⟨x,hx,h1,h2⟩
      by_cases c:p y=true
      · rw [if_pos c,if_pos (hy c)]; omega
      · rw [if_neg c]; split <;> omega
theorem falses_set {n i t:Nat} {B:Nat→Nat→Bool} (hi:i < n) (ht:t < n) (h:B i t=false):falses n (setB B i t) < falses n B:=by
  refine countP_lt (fun p _ hp=>?_) ⟨(i,t),List.mem_flatMap.mpr ⟨i,List.mem_range.mpr hi,List.mem_map.mpr ⟨t,List.mem_range.mpr ht,rfl⟩⟩,by show (!B i t)=true; rw [h]; rfl,?_⟩
  · have hp:(!setB B i t p.1 p.2)=true:=hp
    show (!B p.1 p.2)=true
    unfold setB at hp
    split at hp
    · cases hp
    · exact hp
  · show ¬ (!setB B i t i t)=true
    unfold setB
    rw [if_pos ⟨rfl,rfl⟩]; decide
structure Sound (n:Nat) (es:List CE) (B:Nat→Nat→Bool):Prop where
  rch:∀ i j,i < n→j < n→B i j=true→Rch es i j
  refl:∀ i,i < n→B i i=true
def Shut (n:Nat) (es:List CE) (B:Nat→Nat→Bool):Prop:=∀ e∈es,e.c≠some 0→∀ i,i < n→B i e.f=true→B i e.t=true
theorem shut_rch {n:Nat} {es:List CE} {B:Nat→Nat→Bool} (hs:Shut n es B) {i:Nat} (hi:i < n):∀ {l:List CE} {p q:Nat},Live es l→B i p=true→goes p l=some q→B i q=true
  | [],p,q,_,h,g=>by cases g; exact h
  | e :: l,p,q,lv,h,g=>by
    by_cases c:e.f=p
    · subst c
      rw [goes_cons] at g
      obtain ⟨he,hc⟩:=lv e List.mem_cons_self
      exact shut_rch hs hi (fun x hx=>lv x (List.mem_cons_of_mem _ hx)) (hs e he hc i hi h) g
    · rw [goes.eq_def] at g
      dsimp only at g
      rw [if_neg c] at g; cases g
theorem met_iff {n:Nat} {es:List CE} {B:Nat→Nat→Bool} (S:Sound n es B) (hs:Shut n es B) {i j:Nat} (hi:i < n) (hj:j < n):B i j=true ↔ Rch es i j :=
  ⟨S.rch i j hi hj,fun ⟨_,lv,g⟩=>shut_rch hs hi lv (S.refl i hi) g⟩
def spComes:Sp:=fun vs H Q _=>∃ (rl:Addr) (n:Nat) (xs:List V) (es:List (Edge (Car .counted))),vs=[.int (n:Int),.ref rl]∧H rl=some (.lst xs)∧IsRoads H xs (es.map (Edge.road .counted))∧(∀ e∈es,e.f < n∧e.t < n)∧n≤8∧es.length≤64 ∧
  ∀ ml rs B H',Same H H'→IsB H' n ml rs B→(∀ i j,i < n→j < n→(B i j=true ↔ Rch es i j))→Q (.ref ml) H'
theorem sc_law_comes:FnScope ["many","roads","met","more","road","i"] ["many","roads"] (defScope (top 34)):=⟨rfl,rfl,rfl,by decide +kernel,rfl,by decide +kernel,by decide +kernel⟩
theorem d_law_comes (T:Tx K mg a) (F:DefAt K mg "_law_comes" (top 34)):Dn P w K mg base 1 "_law_comes" ["many","roads"] spComes:=by
  obtain ⟨f,fd,hm,F⟩:=F.ex
  refine ⟨f,fd,hm,F.kp,F.binds fun _ _ _ _ _ _ us hl=>match us,hl with | [_,_],_=>rfl,?_⟩
  refine F.okN sc_law_comes (fun vs H Q E h=>?_) (fun cdv A outer s H vs Q E hr h=>?_)
  · obtain ⟨_,_,_,_,rfl,_⟩:=h
    rfl
  · obtain ⟨rl,n,xs,es,rfl,hx,hR,hes,n8,h64,q⟩:=h
    refine ⟨_,(pss_cons (ps_setCM (i:=2) sc_law_comes.nd rfl rfl (N:=["many","roads","met","more","road","i"]) (osc:=defScope (top 34)) (k:=1) (N':=["i","many"]) (fr:=[0]) (xc:="i") ⟨rfl,by decide +kernel,by decide +kernel,rfl,by decide +kernel,by decide +kernel,by decide +kernel,by decide +kernel⟩ rfl rfl rfl (pi_range1 rfl T.b_range (pa_cons (hs:=st_Name) (pv 0) pa_nil)) (fun ca=>⟨(pg_name (i:=0) (show List.Nodup (["i","many"]:List Str) from by decide +kernel) rfl (Or.inr rfl)),pts_nil,(pe_comp (N:=["i","many"]) (osc:=relK _ (defScope (top 34))) (k:=1) (N':=["j","i"]) (fr:=[0]) ⟨rfl,by decide +kernel,by decide +kernel,by decide +kernel,rfl,by decide +kernel,by decide +kernel⟩ rfl (relK_eq rfl) rfl (pi_range1 rfl T.b_range (pa_cons (hs:=st_Name) (pv 1) pa_nil)) (fun ca2=>⟨(pg_name (i:=0) (show List.Nodup (["j","i"]:List Str) from by decide +kernel) rfl (Or.inl rfl)),pts_nil,(pe_cmpR op_eq (pv 1) (pv 0) (nomark _))⟩))⟩))
      (pss_cons (ps_set (i:=3) sc_law_comes.nd rfl (Or.inl rfl) pe_bl)
      (pss_cons (ps_while PassesOwn.never (pt_val (pv 3) (fun _=>rfl)) (pss_cons (ps_set (i:=3) sc_law_comes.nd rfl (Or.inl rfl) pe_bl)
      (pss_one (ps_for PassesOwn.never rfl (pi_list (pv 1)) (pg_name (i:=4) sc_law_comes.nd rfl (Or.inl rfl)) (pss_one (ps_for PassesOwn.never rfl (pi_range1 rfl T.b_range (pa_cons (hs:=st_Name) (pv 0) pa_nil)) (pg_name (i:=5) sc_law_comes.nd rfl (Or.inl rfl)) (pss_one (ps_if (PW.pt (pw_and (pt_cmpR op_ne (pe_ix ix_tup (pv 4) pe_int (fun _ _=>rfl)) pe_int (nomark _)) (pw_and (pt_val (pe_ix ix_list (pe_ix ix_list (pv 2) (pv 5) (fun _ _=>rfl)) (pe_ix ix_tup (pv 4) pe_int (fun _ _=>rfl)) (fun _ _=>rfl)) (fun _=>rfl)) (pw_and1 (pt_not (pt_val (pe_ix ix_list (pe_ix ix_list (pv 2) (pv 5) (fun _ _=>rfl)) (pe_ix ix_tup (pv 4) pe_int (fun _ _=>rfl)) (fun _ _=>rfl)) (fun _=>rfl))))))) (pss_cons (ps_asg pe_bl (pg_sub (pe_ix ix_list (pv 2) (pv 5) (fun _ _=>rfl)) (pe_ix ix_tup (pv 4) pe_int (fun _ _=>rfl)) set_list))
      (pss_one (ps_set (i:=3) sc_law_comes.nd rfl (Or.inl rfl) pe_bl))) pss_nil))))))))
      (pss_one (ps_ret (pv 2)))))),?_⟩
    have hl:xs.length=es.length:=by rw [hR.length,List.length_map]
    refine seqK (fun σ H'=>∃ ml rs,σ=[some (.int (n:Int)),some (.ref rl),some (.ref ml),none,none,none]∧Same H H'∧H ml=none∧(∀ r∈rs,H r=none)∧IsB H' n ml rs (fun i j=>decide (i=j))) (fun nx kk=>?_) ?_
    · refine ⟨_,rfl,(n:Int),rfl,by omega,by omega,comp_range (n:=(n:Int).toNat) (fun i ys H'=>Same H H'∧∃ rs:List Addr,ys=rs.map V.ref∧rs.length=i∧rs.Nodup∧(∀ r∈rs,H r=none)∧∀ k r,rs[k]?=some r→H' r=some (.lst (bls n fun j=>decide (k=j)))) (lines (by omega)) ⟨Same.refl H,[],rfl,rfl,List.nodup_nil,(fun r hr=>by cases hr),(fun k r hr=>by cases hr)⟩ ?_ ?_⟩
      · rintro i ys H' hi ⟨s',rs,rfl,hlen,hnd,hnew,hrow⟩ ca
        have ei:(0 + (i:Int))=((i:Nat):Int):=by omega
        refine ⟨⟨rfl,rfl⟩,?_⟩
        refine ⟨_,rfl,(n:Int),rfl,by omega,by omega,comp_range (n:=(n:Int).toNat) (fun j zs H2=>H2=H'∧zs=bls j fun j=>decide (i=j)) (lines (by omega)) ⟨rfl,rfl⟩ ?_ ?_⟩
        · rintro j zs H2 hj ⟨rfl,rfl⟩ ca2
          refine ⟨⟨rfl,rfl⟩,?_⟩
          refine ⟨_,rfl,_,rfl,rfl,rfl,?_⟩
          unfold bls
          rw [List.range_succ,List.map_append]
          congr 1
          show [V.bl (decide (V.int (0 + (i:Int))=V.int (0 + (j:Int))))]=[V.bl (decide (i=j))]
          rw [show decide (V.int (0 + (i:Int))=V.int (0 + (j:Int)))=decide (i=j) from decide_eq_decide.mpr ⟨fun z=>by have:=V.int.inj z; omega,fun z=>by rw [z]⟩]
        · rintro zs H2 ⟨rfl,rfl⟩ p np
          rw [Int.toNat_natCast]
          have u:=same_one (o:=.lst (bls n fun j=>decide (i=j))) np
          refine ⟨s'.trans u,rs ++ [p],by rw [List.map_append]; rfl,by rw [List.length_append,List.length_singleton,hlen],?_,fun r hr=>?_,fun k r hr=>?_⟩
          · rw [List.nodup_append]
            refine ⟨hnd,by simp,fun r hr b hb=>?_⟩
            rw [List.mem_singleton.mp hb]
            obtain ⟨k,hk⟩:=List.getElem?_of_mem hr
            exact ne_of_none (hrow k r hk) np
          · rcases List.mem_append.mp hr with hr | hr
            · exact hnew r hr
            · rw [List.mem_singleton.mp hr]; exact same_none s' np
          · by_cases c:k < rs.length
            · rw [List.getElem?_append_left c] at hr
              exact u _ _ (hrow k r hr)
            · rw [List.getElem?_append_right (by omega)] at hr
              have hk0:k - rs.length=0:=by
                have:=(List.getElem?_eq_some_iff.mp hr).1
                rw [List.length_singleton] at this; omega
              rw [hk0] at hr
              obtain rfl:p=r:=Option.some.inj hr
              obtain rfl:k=i:=by omega
              exact upd_same
      · rintro ys H' ⟨s',rs,rfl,hlen,hnd,hnew,hrow⟩ ml nml
        rw [Int.toNat_natCast] at hlen
        have u:=same_one (o:=.lst (rs.map V.ref)) nml
        refine kk _ _ ⟨ml,rs,rfl,s'.trans u,same_none s' nml,hnew,upd_same,hlen,hnd,fun z=>?_,fun k r hr=>u _ _ (hrow k r hr)⟩
        obtain ⟨k,hk⟩:=List.getElem?_of_mem z
        have:=hrow k ml hk
        rw [nml] at this; cases this
    rintro σ H1 ⟨ml,rs,rfl,s1,nml,nrs,B1⟩
    refine ⟨fun m σ H'=>∃ (B:Nat→Nat→Bool) (b:Bool) (o4 o5:Option V),σ=[some (.int (n:Int)),some (.ref rl),some (.ref ml),some (.bl b),o4,o5]∧Same H H'∧IsB H' n ml rs B∧Sound n es B∧(b=false→Shut n es B)∧m=2 * falses n B + (if b=true then 1 else 0),
      ⟨_,_,true,_,_,rfl,s1,B1,⟨fun i j _ _ h=>by rw [of_decide_eq_true h]; exact Rch.refl j,fun i _=>decide_eq_true rfl⟩,(fun z=>by cases z),rfl⟩,?_⟩
    rintro m σ H2 ⟨B,b,o4,o5,rfl,s2,MB,SB,hsh,rfl⟩
    refine ⟨_,rfl,_,rfl,?_⟩
    cases b with
    | false=>exact iteF ⟨_,rfl,q ml rs B H2 s2 MB fun i j hi hj=>met_iff SB (hsh rfl) hi hj⟩
    | true =>
      refine iteT ⟨fun σ' H'=>_,fun _ _ z=>z,?_⟩
      refine ⟨_,rfl,rl,rfl,⟨xs,SqL.of (s2 _ _ hx)⟩,for_list (xs:=xs) (fun k σ H'=>∃ (B':Nat→Nat→Bool) (b':Bool) (o4 o5:Option V),σ=[some (.int (n:Int)),some (.ref rl),some (.ref ml),some (.bl b'),o4,o5]∧Same H H'∧IsB H' n ml rs B'∧Sound n es B'∧falses n B'≤falses n B∧(b'=true→falses n B' < falses n B)∧(b'=false→∀ e∈es.take k,e.c≠some 0→∀ i,i < n→B' i e.f=true→B' i e.t=true))
        ⟨B,false,_,_,rfl,s2,MB,SB,Nat.le_refl _,(fun z=>by cases z),fun _ e he=>by rw [List.take_zero] at he; cases he⟩ (fun k σ H' _ ⟨_,_,_,_,_,s',_⟩=>SqL.of (s' _ _ hx)) ?_ ?_⟩
      · rintro k x σ H3 ex ⟨B',b',o4,o5,rfl,s3,MB',SB',le',lt',sh'⟩
        have hk:k < es.length:=by have:=(List.getElem?_eq_some_iff.mp ex).1; omega
        have ee:es[k]?=some es[k]:=List.getElem?_eq_getElem hk
        obtain ⟨r,er,pr,wr,rfl,f2,f3⟩:=pget hR ex
        rw [List.getElem?_map,ee] at er
        obtain rfl:Edge.road .counted es[k]=r:=Option.some.inj er
        have em:es[k]∈es:=List.getElem_mem hk
        have et:es.take (k + 1)=es.take k ++ [es[k]]:=(List.take_append_getElem hk).symm
        obtain ⟨g1,g2⟩:=hes es[k] em
        generalize es[k]=e at ee f2 f3 em et g1 g2
        obtain ⟨wi,rfl,wenc,wc⟩:=counted_is f3
        have wz:wi≠0 ↔ e.c≠some 0:=by
          rcases wc with ⟨z1,z2⟩ | ⟨m',z1,z2⟩
          · rw [z1,z2]; exact ⟨fun _ h=>(by cases h),fun _=>(by decide)⟩
          · rw [z1,z2]; exact ⟨fun h z=>h (by rw [Option.some.inj z]; rfl),fun h z=>h (by rw [show m'=0 by omega])⟩
        dsimp only [gName]
        refine ⟨_,rfl,(n:Int),rfl,by omega,by omega,for_range (n:=(n:Int).toNat) (fun i σ H'=>∃ (B':Nat→Nat→Bool) (b':Bool) (o5:Option V),σ=[some (.int (n:Int)),some (.ref rl),some (.ref ml),some (.bl b'),some (.ref pr),o5]∧Same H H'∧IsB H' n ml rs B'∧Sound n es B'∧falses n B'≤falses n B∧(b'=true→falses n B' < falses n B)∧(b'=false→(∀ e∈es.take k,e.c≠some 0→∀ i,i < n→B' i e.f=true→B' i e.t=true)∧(e.c≠some 0→∀ i',i' < i→B' i' e.f=true→B' i' e.t=true)))
          ⟨B',b',_,rfl,s3,MB',SB',le',lt',fun z=>⟨sh' z,fun _ i' h=>absurd h (Nat.not_lt_zero i')⟩⟩ ?_ ?_⟩
        · clear MB' SB' le' lt' sh' s3
          rintro i σ H4 hi ⟨B',b',o5,rfl,s4,MB',SB',le',lt',sh'⟩
          have hi:i < n:=by omega
          have ei:(0 + (i:Int))=((i:Nat):Int):=by omega
          dsimp only [gName]
          rw [ei]
          have t4:=s4 _ _ f2
          obtain ⟨ri,a1,a2,a3⟩:=MB'.get hi
          have same:(¬ (e.c≠some 0∧B' i e.f=true∧B' i e.t=false))→∃ (B'':Nat→Nat→Bool) (b'':Bool) (o5:Option V),([some (.int (n:Int)),some (.ref rl),some (.ref ml),some (.bl b'),some (.ref pr),some (.int (i:Int))]:L2.St)=[some (.int (n:Int)),some (.ref rl),some (.ref ml),some (.bl b''),some (.ref pr),o5]∧Same H H4∧IsB H4 n ml rs B''∧Sound n es B''∧falses n B''≤falses n B∧(b''=true→falses n B'' < falses n B)∧(b''=false→(∀ e∈es.take k,e.c≠some 0→∀ i,i < n→B'' i e.f=true→B'' i e.t=true)∧(e.c≠some 0→∀ i',i' < i + 1→B'' i' e.f=true→B'' i' e.t=true)):=fun no =>
            ⟨B',b',_,rfl,s4,MB',SB',le',lt',fun z=>⟨(sh' z).1,fun hc i' hi' hb=>by
              by_cases d:i'=i
              · subst d
                cases hh:B' i' e.t with
                | true=>rfl
                | false=>exact absurd ⟨hc,hb,hh⟩ no
              · exact (sh' z).2 hc i' (by omega) hb⟩⟩
          refine ⟨_,rfl,pr,_,_,_,rfl,rfl,SqT.of t4,rfl,rfl,_,rfl,iteNeI (fun c1=>?_) (fun c1=>?_)⟩
          · refine ⟨_,rfl,_,rfl,ml,_,_,_,rfl,rfl,SqL.of MB'.top,a2,_,rfl,pr,_,_,_,rfl,rfl,SqT.of t4,rfl,ri,_,_,_,rfl,rfl,SqL.of a3,atI_nat (bls_get g1),_,rfl,iteB (fun c2=>?_) (fun c2=>?_)⟩
            · refine ⟨_,rfl,_,rfl,ml,_,_,_,rfl,rfl,SqL.of MB'.top,a2,_,rfl,pr,_,_,_,rfl,rfl,SqT.of t4,rfl,ri,_,_,_,rfl,rfl,SqL.of a3,atI_nat (bls_get g2),_,rfl,?_⟩
              cases c3:B' i e.t with
              | true=>exact iteF (same fun z=>by rw [c3] at z; cases z.2.2)
              | false =>
                refine iteT ?_
                refine ⟨_,rfl,_,rfl,ml,_,_,_,rfl,rfl,SqL.of MB'.top,a2,_,rfl,pr,_,_,_,rfl,rfl,SqT.of t4,rfl,ri,_,_,e.t,rfl,rfl,a3,(by rw [bls_len]; exact ixN_nat g2),?_⟩
                have fl:=falses_set hi g2 c3
                refine ⟨setB B' i e.t,true,_,rfl,same_upd s4 (nrs ri (List.mem_of_getElem? a1)),MB'.set a1,⟨fun x y hx hy h=>?_,fun x hx=>?_⟩,by omega,fun _=>by omega,(fun z=>by cases z)⟩
                · unfold setB at h
                  split at h
                  · rename_i z
                    rw [z.1,z.2]
                    exact (SB'.rch i e.f hi g1 c2).trans (Rch.edge em (wz.mp c1))
                  · exact SB'.rch x y hx hy h
                · unfold setB
                  split
                  · rfl
                  · exact SB'.refl x hx
            · exact iteF (same fun z=>by rw [c2] at z; cases z.2.1)
          · exact iteF (same fun z=>wz.mpr z.1 c1)
        · rintro σ H4 ⟨B',b',o5,rfl,s4,MB',SB',le',lt',sh'⟩
          rw [Int.toNat_natCast] at sh'
          refine ⟨B',b',_,_,rfl,s4,MB',SB',le',lt',fun z e' he'=>?_⟩
          rw [et] at he'
          rcases List.mem_append.mp he' with he' | he'
          · exact (sh' z).1 e' he'
          · rw [List.mem_singleton.mp he']
            exact (sh' z).2
      · rintro σ H3 ⟨B',b',o4,o5,rfl,s3,MB',SB',le',lt',sh'⟩
        rw [hl,List.take_length] at sh'
        refine ⟨2 * falses n B' + (if b'=true then 1 else 0),?_,B',b',_,_,rfl,s3,MB',SB',sh',rfl⟩
        rw [if_pos rfl]
        cases b' with
        | true=>rw [if_pos rfl]; have:=lt' rfl; omega
        | false=>rw [if_neg Bool.false_ne_true]; omega
def spEndl:Sp:=fun vs H Q _=>∃ (rl ml:Addr) (n i j:Nat) (xs:List V) (es:List (Edge (Car .counted))) (rs:List Addr) (B:Nat→Nat→Bool),vs=[.int (n:Int),.ref rl,.ref ml,.int (i:Int),.int (j:Int)]∧H rl=some (.lst xs)∧IsRoads H xs (es.map (Edge.road .counted))∧(∀ e∈es,e.f < n∧e.t < n)∧IsB H n ml rs B∧(∀ i j,i < n→j < n→(B i j=true ↔ Rch es i j))∧i < n∧j < n ∧
  (Endl es i j→Q (.bl true) H)∧(¬ Endl es i j→Q (.bl false) H)
theorem sc_law_endless:FnScope ["many","roads","met","i","j","road"] ["many","roads","met","i","j"] (defScope (top 35)):=⟨rfl,rfl,rfl,by decide +kernel,rfl,by decide +kernel,by decide +kernel⟩
theorem d_law_endless (T:Tx K mg a) (F:DefAt K mg "_law_endless" (top 35)):Dn P w K mg base 1 "_law_endless" ["many","roads","met","i","j"] spEndl:=by
  obtain ⟨f,fd,hm,F⟩:=F.ex
  refine ⟨f,fd,hm,F.kp,F.binds fun _ _ _ _ _ _ us hl=>match us,hl with | [_,_,_,_,_],_=>rfl,?_⟩
  refine F.okN sc_law_endless (fun vs H Q E h=>?_) (fun cdv A outer s H vs Q E hr h=>?_)
  · obtain ⟨_,_,_,_,_,_,_,_,_,rfl,_⟩:=h
    rfl
  · obtain ⟨rl,ml,n,i,j,xs,es,rs,B,rfl,hx,hR,hes,MB,iff,hi,hj,qT,qF⟩:=h
    refine ⟨_,(pss_cons (ps_for PassesOwn.never rfl (pi_list (pv 1)) (pg_name (i:=5) sc_law_endless.nd rfl (Or.inl rfl)) (pss_one (ps_if (PW.pt (pw_and (pt_cmpR op_ne (pe_ix ix_tup (pv 5) pe_int (fun _ _=>rfl)) pe_int (nomark _)) (pw_and (pt_val (pe_ix ix_list (pe_ix ix_list (pv 2) (pv 3) (fun _ _=>rfl)) (pe_ix ix_tup (pv 5) pe_int (fun _ _=>rfl)) (fun _ _=>rfl)) (fun _=>rfl)) (pw_and1 (pt_val (pe_ix ix_list (pe_ix ix_list (pv 2) (pe_ix ix_tup (pv 5) pe_int (fun _ _=>rfl)) (fun _ _=>rfl)) (pv 4) (fun _ _=>rfl)) (fun _=>rfl)))))) (pss_one (ps_if (PW.pt (pw_or (pt_cmpR op_eq (pe_ix ix_tup (pv 5) pe_int (fun _ _=>rfl)) (pe_un un_neg pe_int) (nomark _)) (pw_or1 (pt_val (pe_ix ix_list (pe_ix ix_list (pv 2) (pe_ix ix_tup (pv 5) pe_int (fun _ _=>rfl)) (fun _ _=>rfl)) (pe_ix ix_tup (pv 5) pe_int (fun _ _=>rfl)) (fun _ _=>rfl)) (fun _=>rfl))))) (pss_one (ps_ret pe_bl)) pss_nil)) pss_nil)))
      (pss_one (ps_ret pe_bl))),?_⟩
    have hl:xs.length=es.length:=by rw [hR.length,List.length_map]
    refine ⟨_,rfl,rl,rfl,⟨xs,SqL.of hx⟩,for_list (xs:=xs) (fun k σ H'=>∃ o,σ=[some (.int (n:Int)),some (.ref rl),some (.ref ml),some (.int (i:Int)),some (.int (j:Int)),o]∧H'=H∧∀ e∈es.take k,¬ (e.c≠some 0∧Rch es i e.f∧Rch es e.t j∧(e.c=none∨Rch es e.t e.f))) ⟨_,rfl,rfl,fun e he=>by rw [List.take_zero] at he; cases he⟩ (fun k σ H' _ ⟨_,_,e,_⟩=>by rw [e]; exact SqL.of hx) ?_ ?_⟩
    · rintro k x σ H' ex ⟨o,rfl,rfl,no⟩
      have hk:k < es.length:=by have:=(List.getElem?_eq_some_iff.mp ex).1; omega
      have ee:es[k]?=some es[k]:=List.getElem?_eq_getElem hk
      obtain ⟨r,er,pr,wr,rfl,f2,f3⟩:=pget hR ex
      rw [List.getElem?_map,ee] at er
      obtain rfl:Edge.road .counted es[k]=r:=Option.some.inj er
      have em:es[k]∈es:=List.getElem_mem hk
      have et:es.take (k + 1)=es.take k ++ [es[k]]:=(List.take_append_getElem hk).symm
      obtain ⟨g1,g2⟩:=hes es[k] em
      generalize es[k]=e at ee f2 f3 em et g1 g2
      obtain ⟨wi,rfl,wenc,wc⟩:=counted_is f3
      have wz:wi≠0 ↔ e.c≠some 0:=by
        rcases wc with ⟨z1,z2⟩ | ⟨m',z1,z2⟩
        · rw [z1,z2]; exact ⟨fun _ h=>(by cases h),fun _=>(by decide)⟩
        · rw [z1,z2]; exact ⟨fun h z=>h (by rw [Option.some.inj z]; rfl),fun h z=>h (by rw [show m'=0 by omega])⟩
      have wn:wi=-1 ↔ e.c=none:=by
        rcases wc with ⟨z1,z2⟩ | ⟨m',z1,z2⟩
        · exact ⟨fun _=>z2,fun _=>z1⟩
        · rw [z2]; exact ⟨fun h=>by omega,fun h=>by cases h⟩
      have go:¬ (e.c≠some 0∧Rch es i e.f∧Rch es e.t j∧(e.c=none∨Rch es e.t e.f))→∃ o,([some (.int (n:Int)),some (.ref rl),some (.ref ml),some (.int (i:Int)),some (.int (j:Int)),some (.ref pr)]:L2.St)=[some (.int (n:Int)),some (.ref rl),some (.ref ml),some (.int (i:Int)),some (.int (j:Int)),o]∧H'=H'∧∀ e∈es.take (k + 1),¬ (e.c≠some 0∧Rch es i e.f∧Rch es e.t j∧(e.c=none∨Rch es e.t e.f)):=fun c=>⟨_,rfl,rfl,fun e' he'=>by
        rw [et] at he'
        rcases List.mem_append.mp he' with he' | he'
        · exact no e' he'
        · rw [List.mem_singleton.mp he']; exact c⟩
      obtain ⟨ri,a1,a2,a3⟩:=MB.get hi
      obtain ⟨rt,b1,b2,b3⟩:=MB.get g2
      refine ⟨_,rfl,pr,_,_,_,rfl,rfl,SqT.of f2,rfl,rfl,_,rfl,iteNeI (fun c1=>?_) (fun c1=>iteF (go fun z=>wz.mpr z.1 c1))⟩
      refine ⟨_,rfl,_,rfl,ml,_,_,_,rfl,rfl,SqL.of MB.top,a2,_,rfl,pr,_,_,_,rfl,rfl,SqT.of f2,rfl,ri,_,_,_,rfl,rfl,SqL.of a3,atI_nat (bls_get g1),_,rfl,iteB (fun c2=>?_) (fun c2=>iteF (go fun z=>by rw [(iff i e.f hi g1).mpr z.2.1] at c2; cases c2))⟩
      refine ⟨_,rfl,_,rfl,pr,_,_,_,rfl,rfl,SqT.of f2,rfl,ml,_,_,_,rfl,rfl,SqL.of MB.top,b2,_,rfl,rt,_,_,_,rfl,rfl,SqL.of b3,atI_nat (bls_get hj),_,rfl,iteB (fun c3=>?_) (fun c3=>go fun z=>by rw [(iff e.t j g2 hj).mpr z.2.2.1] at c3; cases c3)⟩
      refine ⟨_,rfl,pr,_,_,_,rfl,rfl,SqT.of f2,rfl,_,rfl,rfl,_,rfl,iteEqI (fun c4=>?_) (fun c4=>?_)⟩
      · exact iteT (qT ⟨e,em,wz.mp c1,(iff i e.f hi g1).mp c2,(iff e.t j g2 hj).mp c3,.inl (wn.mp c4)⟩)
      · refine ⟨_,rfl,_,rfl,pr,_,_,_,rfl,rfl,SqT.of f2,rfl,ml,_,_,_,rfl,rfl,SqL.of MB.top,b2,_,rfl,pr,_,_,_,rfl,rfl,SqT.of f2,rfl,rt,_,_,_,rfl,rfl,SqL.of b3,atI_nat (bls_get g1),_,rfl,iteB (fun c5=>?_) (fun c5=>go fun z=>?_)⟩
        · exact qT ⟨e,em,wz.mp c1,(iff i e.f hi g1).mp c2,(iff e.t j g2 hj).mp c3,.inr ((iff e.t e.f g2 g1).mp c5)⟩
        · rcases z.2.2.2 with z | z
          · exact c4 (wn.mpr z)
          · rw [(iff e.t e.f g2 g1).mpr z] at c5; cases c5
    · rintro σ H' ⟨o,rfl,rfl,no⟩
      rw [hl,List.take_length] at no
      exact qF fun ⟨e,he,h⟩=>no e he h
end
end K10
namespace K10
open PySem L2 Ws
seal PE PT PW PA PC PS PSs PG PGs PI PO PJ PTs
section
variable {P : Program} {w : World} {K : PySem.W.Frag} {mg : Str → Option Value} {base : Heap} {a : Adr}
theorem graph_yes {n:Nat} {es:List (Edge (Car .counted))} (G:Graph .counted n es) (n1:1≤n) (h64:es.length≤64):netYes .counted (n:Int) (es.map (Edge.road .counted))=true:=by
  have nb:=G.nb
  simp only [netYes,numsOk,Bool.and_eq_true,decide_eq_true_eq]
  refine ⟨⟨⟨by omega,by omega⟩,by rw [List.length_map]; exact h64⟩,?_,?_⟩
  · refine List.all_eq_true.mpr fun x hx=>?_
    obtain ⟨e,he,rfl⟩:=List.mem_map.mp hx
    obtain ⟨a,b⟩:=G.ends e he
    show (decide ((0:Int)≤((e.f:Nat):Int)) && decide (((e.f:Nat):Int) < (n:Int)) && (decide ((0:Int)≤((e.t:Nat):Int)) && decide (((e.t:Nat):Int) < (n:Int))))=true
    rw [decide_eq_true (by omega),decide_eq_true (by omega),decide_eq_true (by omega),decide_eq_true (by omega)]; rfl
  · exact List.all_eq_true.mpr fun i _=>rfl
theorem graph_worths {es:List (Edge (Car .counted))}:worthsOk .counted (es.map (Edge.road .counted))=true:=by
  refine List.all_eq_true.mpr fun x hx=>?_
  obtain ⟨e,he,rfl⟩:=List.mem_map.mp hx
  exact isWorth_enc e.c
def ordE (l:List (Edge (Car .counted))):List (Edge (Car .counted)):=(l.filter fun e=>decide (e.f≠e.t)).map fun e=>⟨min e.f e.t,max e.f e.t,e.c⟩
theorem ord_step {es:List (Edge (Car .counted))} {k:Nat} {e:Edge (Car .counted)} (h:es[k]?=some e):ordE (es.take (k + 1))=ordE (es.take k) ++ if e.f≠e.t then [⟨min e.f e.t,max e.f e.t,e.c⟩] else []:=by
  obtain ⟨hk,rfl⟩:=List.getElem?_eq_some_iff.mp h
  unfold ordE
  rw [← List.take_append_getElem hk,List.filter_append,List.map_append]
  congr 1
  by_cases c:es[k].f≠es[k].t
  · rw [if_pos c,List.filter_cons_of_pos (by simpa using c)]; rfl
  · rw [if_neg c,List.filter_cons_of_neg (by simpa using c)]; rfl
theorem ord_graph {n:Nat} {es:List (Edge (Car .counted))} (G:Graph .counted n es):Graph .counted n (ordE es):=by
  have mem:∀ e∈ordE es,∃ e0∈es,e=⟨min e0.f e0.t,max e0.f e0.t,e0.c⟩:=fun e he=>by
    obtain ⟨e0,h0,rfl⟩:=List.mem_map.mp he
    exact ⟨e0,(List.mem_filter.mp h0).1,rfl⟩
  refine ⟨G.nb,fun e he=>?_,fun e he=>?_,(fun h=>by cases h),(fun h=>by cases h)⟩
  · obtain ⟨e0,h0,rfl⟩:=mem e he
    have:=G.ends e0 h0
    exact ⟨by show min e0.f e0.t < n; omega,by show max e0.f e0.t < n; omega⟩
  · obtain ⟨e0,h0,rfl⟩:=mem e he
    exact G.sm e0 h0
theorem ord_len (es:List (Edge (Car .counted))):(ordE es).length≤es.length:=by
  unfold ordE
  rw [List.length_map]
  exact List.length_filter_le _ _
theorem stage_some (A0:Mat (Option Nat)):∀ n,∃ A,stageA ksCounted A0 n=some A
  | 0=>⟨A0,rfl⟩
  | n + 1=>let ⟨A,h⟩:=stage_some A0 n; ⟨_,stage_succ ksCounted h rfl⟩
def IsRows (H:Hp) (n i:Nat) (es:List (Edge (Car .counted))) (zs:List V) (c:Nat):Prop:=zs.length=c∧∀ k,k < c→∃ l vs,zs[k]?=some (.ref l)∧H l=some (.lst vs)∧IsVec H .counted 50000 n vs (stepsV (ks .counted okN) es i k)
theorem IsRows.same {H H':Hp} {n i:Nat} {es:List (Edge (Car .counted))} {zs:List V} {c:Nat} (e:Same H H') (h:IsRows H n i es zs c):IsRows H' n i es zs c:=⟨h.1,fun k hk=>let ⟨l,vs,a,b,d⟩:=h.2 k hk; ⟨l,vs,a,e _ _ b,d.st (same_st e)⟩⟩
theorem sc_law:FnScope ["script","drawn","many","roads","found","met","i","rows","j","due","row"] ["script"] (defScope (top 36)):=⟨rfl,rfl,rfl,by decide +kernel,rfl,by decide +kernel,by decide +kernel⟩
theorem ok_law (T:Tx K mg a) (D_law_cell_at:Dn P w K mg base 1 "_law_cell_at" ["script","k"] (spCell K)) (D_law_net:Dn P w K mg base 36 "_law_net" ["script","at","which","m","most","extra"] (spLNet K))
    (M_Net:Mkr P w K mg base 38 "Net" a.cNet ["self","kind","places","roads"] (spNet a)) (D_table:Dn P w K mg base 38 "table" ["net"] (spTable a)) (D_law_comes:Dn P w K mg base 1 "_law_comes" ["many","roads"] spComes) (D_law_endless:Dn P w K mg base 1 "_law_endless" ["many","roads","met","i","j"] spEndl)
    (D_law_steps:Dn P w K mg base 35 "_law_steps" ["which","m","many","roads","place","count"] spLSteps) (D_law_tog:Dn P w K mg base 34 "_law_tog" ["which","one","other"] spLTog) (D_law_is:Dn P w K mg base 2 "_law_is" ["found","due"] spIs)
    {f:Addr} {fd:FuncData} (F:Fun K "law" "law" (top 36) f fd):FnOk P w K mg base (CXE P w) 42 f fd ["script"] (spLaw K):=by
  refine F.okN sc_law (fun vs H Q E h=>?_) (fun cdv A outer s H vs Q E hr h=>?_)
  · obtain ⟨_,_,rfl,_⟩:=h
    rfl
  · obtain ⟨sa,ns,rfl,hS,hlen,q⟩:=h
    refine ⟨_,(pss_cons (ps_set (i:=1) sc_law.nd rfl (Or.inl rfl) (pe_callD D_law_net (hr.mono (by decide)) rfl passE0 (pa_cons (hs:=st_Name) (pv 0) (pa_cons (hs:=st_Constant) pe_int (pa_cons (hs:=st_Constant) pe_int (pa_cons (hs:=st_Constant) pe_int (pa_cons (hs:=st_Constant) pe_int (pa_cons (hs:=st_Constant) pe_int pa_nil))))))))
      (pss_cons (ps_set (i:=2) sc_law.nd rfl (Or.inr rfl) (pe_ix ix_tup (pv 1) pe_int (fun _ _=>rfl)))
      (pss_cons (ps_set (i:=3) sc_law.nd rfl (Or.inr rfl) (pe_ix ix_tup (pv 1) pe_int (fun _ _=>rfl)))
      (pss_cons (ps_if (pt_cmpR op_eq (pe_op op_mod (pe_callD D_law_cell_at (hr.mono (by decide)) rfl passE0 (pa_cons (hs:=st_Name) (pv 0) (pa_cons (hs:=st_Constant) pe_int pa_nil))) pe_int) pe_int (nomark _)) (pss_one (ps_set (i:=3) sc_law.nd rfl (Or.inr rfl) (pe_comp (N:=["script","drawn","many","roads","found","met","i","rows","j","due","row"]) (osc:=defScope (top 36)) (k:=1) (N':=["road"]) (fr:=[]) ⟨rfl,by decide +kernel,by decide +kernel,by decide +kernel,rfl,by decide +kernel,by decide +kernel⟩ rfl rfl rfl (pi_list (pv 3)) (fun ca=>⟨(pg_name (i:=0) (show List.Nodup (["road"]:List Str) from by decide +kernel) rfl (Or.inl rfl)),(pts_one (pt_cmpR op_ne (pe_ix ix_tup (pv 0) pe_int (fun _ _=>rfl)) (pe_ix ix_tup (pv 0) pe_int (fun _ _=>rfl)) (nomark _))),(pe_tup (pa_cons (hs:=st_Call) (pe_callB (call_min2 rfl) rfl T.b_min bt_min (pa_cons (hs:=st_Subscript) (pe_ix ix_tup (pv 0) pe_int (fun _ _=>rfl)) (pa_cons (hs:=st_Subscript) (pe_ix ix_tup (pv 0) pe_int (fun _ _=>rfl)) pa_nil))) (pa_cons (hs:=st_Call) (pe_callB (call_max2 rfl) rfl T.b_max bt_max (pa_cons (hs:=st_Subscript) (pe_ix ix_tup (pv 0) pe_int (fun _ _=>rfl)) (pa_cons (hs:=st_Subscript) (pe_ix ix_tup (pv 0) pe_int (fun _ _=>rfl)) pa_nil))) (pa_cons (hs:=st_Subscript) (pe_ix ix_tup (pv 0) pe_int (fun _ _=>rfl)) pa_nil))))⟩)))) pss_nil)
      (pss_cons (ps_set (i:=4) sc_law.nd rfl (Or.inl rfl) (pe_callD D_table (hr.mono (by decide)) rfl passE0 (pa_cons (hs:=st_Call) (pe_makeD M_Net (hr.mono (by decide)) rfl passE0 (pa_cons (hs:=st_Call) (pe_makeN T.n_Counted rfl) (pa_cons (hs:=st_Name) (pv 2) (pa_cons (hs:=st_Call) (pe_callTy call_list_of rfl T.b_list bt_list (pa_cons (hs:=st_Name) (pv 3) pa_nil)) pa_nil)))) pa_nil)))
      (pss_cons (ps_set (i:=5) sc_law.nd rfl (Or.inl rfl) (pe_callD D_law_comes (hr.mono (by decide)) rfl passE0 (pa_cons (hs:=st_Name) (pv 2) (pa_cons (hs:=st_Name) (pv 3) pa_nil))))
      (pss_cons (ps_for PassesOwn.never rfl (pi_range1 rfl T.b_range (pa_cons (hs:=st_Name) (pv 2) pa_nil)) (pg_name (i:=6) sc_law.nd rfl (Or.inr rfl)) (pss_cons (ps_setC (i:=7) sc_law.nd rfl rfl (N:=["script","drawn","many","roads","found","met","i","rows","j","due","row"]) (osc:=defScope (top 36)) (k:=1) (N':=["count","many","roads","i"]) (fr:=[2,3,6]) ⟨rfl,by decide +kernel,by decide +kernel,by decide +kernel,rfl,by decide +kernel,by decide +kernel⟩ rfl rfl rfl (pi_range1 rfl T.b_range (pa_cons (hs:=st_Name) (pv 2) pa_nil)) (fun ca=>⟨(pg_name (i:=0) (show List.Nodup (["count","many","roads","i"]:List Str) from by decide +kernel) rfl (Or.inl rfl)),pts_nil,(pe_callD D_law_steps (hr.mono (by decide)) rfl passE0 (pa_cons (hs:=st_Constant) pe_int (pa_cons (hs:=st_Constant) pe_int (pa_cons (hs:=st_Name) (pv 1) (pa_cons (hs:=st_Name) (pv 2) (pa_cons (hs:=st_Name) (pv 3) (pa_cons (hs:=st_Name) (pv 0) pa_nil)))))))⟩))
      (pss_one (ps_for PassesOwn.never rfl (pi_range1 rfl T.b_range (pa_cons (hs:=st_Name) (pv 2) pa_nil)) (pg_name (i:=8) sc_law.nd rfl (Or.inl rfl)) (pss_cons (ps_set (i:=9) sc_law.nd rfl (Or.inl rfl) pe_int)
      (pss_cons (ps_for PassesOwn.never rfl (pi_list (pv 7)) (pg_name (i:=10) sc_law.nd rfl (Or.inl rfl)) (pss_one (ps_set (i:=9) sc_law.nd rfl (Or.inl rfl) (pe_callD D_law_tog (hr.mono (by decide)) rfl passE0 (pa_cons (hs:=st_Constant) pe_int (pa_cons (hs:=st_Name) (pv 9) (pa_cons (hs:=st_Subscript) (pe_ix ix_list (pv 10) (pv 8) (fun _ _=>rfl)) pa_nil)))))))
      (pss_cons (ps_if (pt_val (pe_callD D_law_endless (hr.mono (by decide)) rfl passE0 (pa_cons (hs:=st_Name) (pv 2) (pa_cons (hs:=st_Name) (pv 3) (pa_cons (hs:=st_Name) (pv 5) (pa_cons (hs:=st_Name) (pv 6) (pa_cons (hs:=st_Name) (pv 8) pa_nil)))))) (fun _=>rfl)) (pss_one (ps_set (i:=9) sc_law.nd rfl (Or.inl rfl) (pe_un un_neg pe_int))) pss_nil)
      (pss_one (ps_if (pt_not (pt_val (pe_callD D_law_is (hr.mono (by decide)) rfl passE0 (pa_cons (hs:=st_Subscript) (pe_ix ix_list (pe_ix ix_list (pv 4) (pv 6) (fun _ _=>rfl)) (pv 8) (fun _ _=>rfl)) (pa_cons (hs:=st_Name) (pv 9) pa_nil))) (fun _=>rfl))) (pss_one (ps_ret pe_bl)) pss_nil)))))))))
      (pss_one (ps_ret pe_bl))))))))),?_⟩
    refine ⟨_,rfl,sa,ns,1,2,1,6,16,rfl,hS,by decide,by decide,by decide,by decide,by decide,by decide,by decide,by decide,fun dpn l xs n rs H2 s2 nl e1 e2 hR G=>?_⟩
    have G:Good .counted 6 16 n rs:=G
    have gn1:=G.n1
    have gn2:=G.n2
    obtain ⟨es0,rfl,Gr0⟩:=G.graph (by decide)
    have glen:=G.len
    rw [List.length_map] at glen
    have b8:(8:Nat) < 10 ^ 62:=by decide
    have hK:HasK .counted:=trivial
    have hxl:xs.length=es0.length:=by rw [hR.length,List.length_map]
    refine ⟨_,rfl,dpn,_,_,_,rfl,rfl,SqT.of e1,rfl,?_⟩
    refine ⟨_,rfl,dpn,_,_,_,rfl,rfl,SqT.of e1,rfl,?_⟩
    dsimp only [gName]
    refine seqK (fun σ H'=>∃ rl ys es,σ=[some (.ref sa),some (.ref dpn),some (.int (n:Int)),some (.ref rl),none,none,none,none,none,none,none]∧Same H2 H'∧H' rl=some (.lst ys)∧IsRoads H' ys (es.map (Edge.road .counted))∧Graph .counted n es∧es.length≤16) (fun nx kk=>?_) ?_
    · refine ⟨_,rfl,sa,ns,0,rfl,same_lst s2 hS,by decide,_,_,rfl,rfl,(by show (0:Int) < 2; decide),rfl,_,rfl,iteEqI (fun _=>?_) (fun _=>kk _ _ ⟨l,xs,es0,rfl,Same.refl H2,e2,hR,Gr0,glen⟩)⟩
      refine ⟨_,rfl,l,rfl,⟨xs,SqL.of e2⟩,comp_list (xs:=xs) (fun k zs H'=>Same H2 H'∧IsRoads H' zs ((ordE (es0.take k)).map (Edge.road .counted))) (lines (by omega)) ⟨Same.refl H2,.nil⟩ (fun k zs H' _ ⟨s',_⟩=>SqL.of (s' _ _ e2)) ?_ ?_⟩
      · rintro k x zs H' ex ⟨s',hz⟩ ca
        have hk:k < es0.length:=by have:=(List.getElem?_eq_some_iff.mp ex).1; omega
        have ee:es0[k]?=some es0[k]:=List.getElem?_eq_getElem hk
        obtain ⟨r,er,pr,wr,rfl,f2,f3⟩:=pget hR ex
        rw [List.getElem?_map,ee] at er
        obtain rfl:Edge.road .counted es0[k]=r:=Option.some.inj er
        generalize es0[k]=e at ee f2 f3
        have t7:=s' _ _ f2
        refine ⟨⟨rfl,rfl⟩,?_⟩
        refine ⟨_,rfl,pr,_,_,_,rfl,rfl,SqT.of t7,rfl,_,rfl,pr,_,_,_,rfl,rfl,SqT.of t7,rfl,rfl,_,rfl,iteNeI (fun c=>?_) (fun c=>?_)⟩
        · refine ⟨_,rfl,pr,_,_,_,rfl,rfl,SqT.of t7,rfl,_,rfl,pr,_,_,_,rfl,rfl,SqT.of t7,rfl,(e.f:Int),(e.t:Int),rfl,?_⟩
          refine ⟨_,rfl,pr,_,_,_,rfl,rfl,SqT.of t7,rfl,_,rfl,pr,_,_,_,rfl,rfl,SqT.of t7,rfl,(e.f:Int),(e.t:Int),rfl,?_⟩
          refine ⟨_,rfl,pr,_,_,_,rfl,rfl,SqT.of t7,rfl,?_⟩
          refine ⟨(by show 3≤sizeLine; decide),fun p np=>?_⟩
          have m1:(if (e.t:Int) < (e.f:Int) then (e.t:Int) else (e.f:Int))=((min e.f e.t:Nat):Int):=by split <;> omega
          have m2:(if (e.t:Int) > (e.f:Int) then (e.t:Int) else (e.f:Int))=((max e.f e.t:Nat):Int):=by split <;> omega
          rw [m1,m2] at *
          have u:=same_one (o:=.tup [.int ((min e.f e.t:Nat):Int),.int ((max e.f e.t:Nat):Int),wr]) np
          refine ⟨s'.trans u,?_⟩
          rw [ord_step ee,if_pos (fun z=>c (by rw [show ((Edge.road .counted e).f)=(e.f:Int) from rfl,show ((Edge.road .counted e).t)=(e.t:Int) from rfl,z])),List.map_append]
          exact Paired.snoc' (hz.same u) ⟨p,wr,rfl,upd_same,(f3.same s').same u⟩
        · refine ⟨s',?_⟩
          rw [ord_step ee,if_neg (fun z=>z (Int.ofNat.inj c)),List.append_nil]
          exact hz
      · rintro zs H' ⟨s',hz⟩ lo nlo
        rw [hxl,List.take_length] at hz
        have u:=same_one (o:=.lst zs) nlo
        exact kk _ _ ⟨lo,zs,ordE es0,rfl,s'.trans u,upd_same,hz.same u,ord_graph Gr0,Nat.le_trans (ord_len es0) glen⟩
    rintro σ H3 ⟨rl,ys,es,rfl,s3,hrl,hR3,Gr,glen⟩
    clear hR e1 e2 Gr0 hS s2 s3 nl hxl
    have h64:es.length≤64:=by omega
    have hyl:ys.length=es.length:=by rw [hR3.length,List.length_map]
    have TF:TFits .counted okN es n:=Gr.tfits h64 (by omega)
    have ends:∀ e∈es,e.f < n∧e.t < n:=Gr.ends
    obtain ⟨A,hA⟩:=stage_some (edgeM ksCounted es) n
    refine fun kp kdx nkp nkdx nek=>?_
    have u4:Same H3 (upd (upd H3 kdx (.own kp)) kp (.ins a.cCounted kdx [])):=same_two nkp nkdx
    have k4:KindAt a (upd (upd H3 kdx (.own kp)) kp (.ins a.cCounted kdx [])) kp .counted:=⟨kdx,upd_same⟩
    generalize upd (upd H3 kdx (.own kp)) kp (.ins a.cCounted kdx [])=H4 at u4 k4
    refine ⟨_,rfl,_,rfl,rl,ys,rfl,.inl (SqL.of (u4 _ _ hrl)),fun l2 nl2=>?_⟩
    have u5:=same_one (o:=.lst ys) nl2
    refine mk_any (k4.same u5) hK okN upd_same ((hR3.same u4).same u5) (log2_small (by omega)) (fun _ _ r hr=>by
      obtain ⟨e,he,rfl⟩:=List.mem_map.mp hr
      exact (Gr.sm e he).mono (by decide)) (fun _ _ np tp H5 s5 _ N=>?_) (fun z=>by rw [graph_yes Gr gn1 h64] at z; cases z) (fun _ z=>by rw [graph_worths] at z; cases z)
    rw [Int.toNat_natCast] at N
    have s35:Same H3 H5:=(u4.trans u5).trans s5
    have hrl5:=s35 _ _ hrl
    have hR5:=hR3.same s35
    clear u4 u5 s5 k4 hrl hR3 s35 nl2 nkp nkdx nek
    refine ⟨np,kp,tp,.counted,okN,n,ys,es,rfl,N,hK,Gr,h64,TF,gn1,(fun z=>by rw [show stageA (ks .counted okN) (edgeM (ks .counted okN) es) n=some A from hA] at z; cases z),fun A' hA' rt rs H7 s7 _ _ MA=>?_⟩
    rw [show stageA (ks .counted okN) (edgeM (ks .counted okN) es) n=some A from hA] at hA'
    obtain rfl:=Option.some.inj hA'
    have hrl7:=s7 _ _ hrl5
    have hR7:=hR5.same s7
    clear hrl5 hR5 N
    dsimp only [gName]
    refine ⟨_,rfl,_,rfl,rl,n,ys,es,rfl,hrl7,hR7,ends,by omega,h64,fun ml ms B H8 s8 MB iff=>?_⟩
    have hrl8:=s8 _ _ hrl7
    have hR8:=hR7.same s8
    have M8:=MA.same s8
    dsimp only [gName]
    refine ⟨_,rfl,(n:Int),rfl,by omega,by omega,for_range (n:=(n:Int).toNat) (fun i σ H'=>∃ o6 o7 o8 o9 o10,σ=[some (.ref sa),some (.ref dpn),some (.int (n:Int)),some (.ref rl),some (.ref rt),some (.ref ml),o6,o7,o8,o9,o10]∧Same H8 H') ⟨_,_,_,_,_,rfl,Same.refl H8⟩ ?_ (fun σ H' _=>q H')⟩
    rintro i σ H9 hi ⟨o6,o7,o8,o9,o10,rfl,s9⟩
    have hi:i < n:=by omega
    have ei:(0 + (i:Int))=((i:Nat):Int):=by omega
    dsimp only [gName]
    rw [ei]
    refine seqK (fun σ H'=>∃ lr zs,σ=[some (.ref sa),some (.ref dpn),some (.int (n:Int)),some (.ref rl),some (.ref rt),some (.ref ml),some (.int (i:Int)),some (.ref lr),o8,o9,o10]∧Same H9 H'∧H' lr=some (.lst zs)∧IsRows H' n i es zs n) (fun nx kk=>?_) ?_
    · refine ⟨_,rfl,(n:Int),rfl,by omega,by omega,comp_range (n:=(n:Int).toNat) (fun c zs H'=>Same H9 H'∧IsRows H' n i es zs c) (lines (by omega)) ⟨Same.refl H9,rfl,fun k hk=>absurd hk (Nat.not_lt_zero k)⟩ ?_ ?_⟩
      · rintro c zs HA hc ⟨sA,hz⟩ ca
        have hc:c < n:=by omega
        have ec:(0 + (c:Int))=((c:Nat):Int):=by omega
        refine ⟨⟨rfl,rfl⟩,?_⟩
        rw [ec]
        refine ⟨_,rfl,_,rfl,_,rfl,_,rfl,.counted,okN,1,rl,n,i,c,ys,es,rfl,(fun _ e=>by cases e),(s9.trans sA) _ _ hrl8,hR8.same (s9.trans sA),fun e he=>⟨(ends e he).1,(ends e he).2,Gr.sm e he⟩,by omega,hi,by omega,Gr.fits h64 i (by omega),fun lv vs HB sB nlv hlv vv=>?_⟩
        refine ⟨sA.trans sB,by rw [List.length_append,List.length_singleton,hz.1],fun k hk=>?_⟩
        by_cases d:k < c
        · obtain ⟨l',vs',a1,a2,a3⟩:=hz.2 k d
          exact ⟨l',vs',by rw [List.getElem?_append_left (by rw [hz.1]; exact d)]; exact a1,sB _ _ a2,a3.st (same_st sB)⟩
        · obtain rfl:k=c:=by omega
          exact ⟨lv,vs,by rw [List.getElem?_append_right (by rw [hz.1]; exact Nat.le_refl _),hz.1]; simp,hlv,vv⟩
      · rintro zs HA ⟨sA,hz⟩ lr nlr
        rw [Int.toNat_natCast] at hz
        have uA:=same_one (o:=.lst zs) nlr
        exact kk _ _ ⟨lr,zs,rfl,sA.trans uA,upd_same,IsRows.same uA hz⟩
    rintro σ HA ⟨lr,zs,rfl,sA,hlr,hz⟩
    have s8A:=s9.trans sA
    refine ⟨_,rfl,(n:Int),rfl,by omega,by omega,for_range (n:=(n:Int).toNat) (fun j σ H'=>∃ o8 o9 o10,σ=[some (.ref sa),some (.ref dpn),some (.int (n:Int)),some (.ref rl),some (.ref rt),some (.ref ml),some (.int (i:Int)),some (.ref lr),o8,o9,o10]∧Same HA H') ⟨_,_,_,rfl,Same.refl HA⟩ ?_ (fun σ H' ⟨o8,o9,o10,e,s'⟩=>⟨_,_,o8,o9,o10,e,s8A.trans s'⟩)⟩
    rintro j σ HB hj ⟨o8,o9,o10,rfl,sB⟩
    have hj:j < n:=by omega
    have ej:(0 + (j:Int))=((j:Nat):Int):=by omega
    dsimp only [gName]
    rw [ej]
    have hlrB:=sB _ _ hlr
    have hzB:=IsRows.same sB hz
    have s8B:=s8A.trans sB
    refine seqK (fun σ H'=>σ=[some (.ref sa),some (.ref dpn),some (.int (n:Int)),some (.ref rl),some (.ref rt),some (.ref ml),some (.int (i:Int)),some (.ref lr),some (.int (j:Int)),some (.int 0),o10]∧HB=H') (fun nx kk=>kk _ _ ⟨rfl,rfl⟩) ?_
    rintro σ H' ⟨rfl,rfl⟩
    refine seqK (fun σ H'=>∃ v o10,σ=[some (.ref sa),some (.ref dpn),some (.int (n:Int)),some (.ref rl),some (.ref rt),some (.ref ml),some (.int (i:Int)),some (.ref lr),some (.int (j:Int)),some v,o10]∧Same HB H'∧IsW H' v (enc .counted (upTo ksCounted es i (n - 1) j))) (fun nx kk=>?_) ?_
    · refine ⟨_,rfl,lr,rfl,⟨zs,SqL.of hlrB⟩,for_list (xs:=zs) (fun c σ H'=>∃ v o10,σ=[some (.ref sa),some (.ref dpn),some (.int (n:Int)),some (.ref rl),some (.ref rt),some (.ref ml),some (.int (i:Int)),some (.ref lr),some (.int (j:Int)),some v,o10]∧Same HB H'∧IsW H' v (enc .counted (ksCounted.to c (fun c=>stepsV ksCounted es i c j)))∧Sm (50010 * c + 10) (enc .counted (ksCounted.to c (fun c=>stepsV ksCounted es i c j)))) ⟨_,_,rfl,Same.refl HB,rfl,by show Sm (50010 * 0 + 10) (.int 0); decide⟩ (fun c σ H' _ ⟨_,_,_,s',_⟩=>SqL.of (s' _ _ hlrB)) ?_ ?_⟩
      · rintro c x σ HC ex ⟨v,o10,rfl,sC,wC,smC⟩
        have hc:c < n:=by have:=(List.getElem?_eq_some_iff.mp ex).1; rw [hz.1] at this; exact this
        obtain ⟨lc,vs,a1,a2,a3⟩:=(IsRows.same sC hzB).2 c hc
        rw [a1] at ex
        obtain rfl:=Option.some.inj ex
        obtain ⟨vc,ec,wc,sc⟩:=a3.2 j hj
        refine ⟨_,rfl,_,rfl,_,rfl,lc,_,_,_,rfl,rfl,SqL.of a2,atI_nat ec,?_⟩
        have b7:50010 * c + 10≤16000000:=by omega
        refine ⟨.counted,okN,v,vc,_,stepsV ksCounted es i c j,rfl,wC,wc,smC.mono b7,Sm.mono (show 50000≤Big by decide) sc,fun v3 HD sD wD=>?_⟩
        have e:ksCounted.to (c + 1) (fun c=>stepsV ksCounted es i c j)=ksCounted.add (ksCounted.to c (fun c=>stepsV ksCounted es i c j)) (stepsV ksCounted es i c j):=to_succ ksCounted c _
        refine ⟨v3,_,rfl,sC.trans sD,by rw [e]; exact wD,?_⟩
        rw [e]
        exact (sm_add (kd:=.counted) (ok:=okN) (B:=50010 * c + 10) (C:=50000) smC sc).mono (by omega)
      · rintro σ HC ⟨v,o10,rfl,sC,wC,smC⟩
        rw [hz.1] at wC
        have e:upTo ksCounted es i (n - 1) j=ksCounted.to n (fun c=>stepsV ksCounted es i c j):=by
          unfold Ws.upTo
          rw [show n - 1 + 1=n by omega]
        exact kk _ _ ⟨v,_,rfl,sC,Eq.mp (congrArg (fun t=>IsW HC v (enc .counted t)) e.symm) wC⟩
    rintro σ HC ⟨v,o10',rfl,sC,wC⟩
    have s8C:=s8B.trans sC
    have MC:=M8.same s8C
    obtain ⟨ra,ya,a1,a2,a3,a4⟩:=mat_at MC hi
    obtain ⟨vx,ex,wx,sx⟩:=a4.2 j hj
    have wx:IsW HC vx (enc .counted (tabA ksCounted A i j)):=wx
    refine seqK (fun σ H'=>∃ v',σ=[some (.ref sa),some (.ref dpn),some (.int (n:Int)),some (.ref rl),some (.ref rt),some (.ref ml),some (.int (i:Int)),some (.ref lr),some (.int (j:Int)),some v',o10']∧HC=H'∧IsW HC v' (enc .counted (tabA ksCounted A i j))) (fun nx kk=>?_) ?_
    · refine ⟨_,rfl,_,rfl,_,rfl,_,rfl,_,rfl,rl,ml,n,i,j,ys,es,ms,B,rfl,s8C _ _ hrl8,hR8.same s8C,ends,MB.same s8C,iff,hi,hj,fun he=>?_,fun he=>?_⟩
      · refine ⟨_,rfl,iteT ?_⟩
        refine ⟨1,rfl,?_⟩
        refine kk _ _ ⟨_,rfl,rfl,?_⟩
        exact Eq.mp (congrArg (fun t=>IsW HC (V.int (-1)) (enc .counted t)) (tab_endless ends hA hi he).symm) (show IsW HC (V.int (-1)) (enc .counted none) from rfl)
      · refine ⟨_,rfl,iteF (kk _ _ ⟨_,rfl,rfl,?_⟩)⟩
        exact Eq.mp (congrArg (fun t=>IsW HC v (enc .counted t)) (tab_finite ends hA hi hj he).symm) wC
    rintro σ H' ⟨v',rfl,rfl,wv⟩
    refine ⟨_,rfl,_,rfl,rt,_,_,_,rfl,rfl,SqL.of MC.top,a2,_,rfl,ra,_,_,_,rfl,rfl,SqL.of a3,atI_nat ex,_,rfl,?_⟩
    exact ⟨vx,v',_,rfl,wx,wv,_,rfl,iteF ⟨_,_,_,rfl,sB.trans sC⟩⟩
end
end K10
namespace K10
open PySem L2 Ws
seal PE PT PW PA PC PS PSs PG PGs PI PO
section
theorem all_mk {l:PySem.W.OpenLaw} {w:World} {K:PySem.W.Frag} {h:Heap} {mg:Str→Option Value} {fa:Addr} (hP:l.prog.given.tree=none) (X:K.In h) (G:h.Ns mainGlobals mg) (hfa:mg "law"=some (.ref fa))
    {c_SumError:Addr} {c_NoNet:Addr} {c_NoWorth:Addr} {c_Kind:Addr} {c_Counted:Addr} {c_Net:Addr} {t_MOST_PLACES:Tok} {t_MOST_ROADS:Tok} {f_Dlaw_cell_at:Addr} {oc_Dlaw_cell_at:Value} {kV_Dlaw_cell_at:Value} {dc_Dlaw_cell_at:Value} {pm_Dlaw_cell_at:Value} {cd_Dlaw_cell_at:Value} {ct_Dlaw_cell_at:Value} {od_Dlaw_cell_at:Option Addr} {an_Dlaw_cell_at:Option Addr} {sl_Dlaw_cell_at:Array (Option Value)} {f_Dlaw_share:Addr} {oc_Dlaw_share:Value} {kV_Dlaw_share:Value} {dc_Dlaw_share:Value} {pm_Dlaw_share:Value} {cd_Dlaw_share:Value} {ct_Dlaw_share:Value} {od_Dlaw_share:Option Addr} {an_Dlaw_share:Option Addr} {sl_Dlaw_share:Array (Option Value)} {f_Dlaw_none:Addr} {oc_Dlaw_none:Value} {kV_Dlaw_none:Value} {dc_Dlaw_none:Value} {pm_Dlaw_none:Value} {cd_Dlaw_none:Value} {ct_Dlaw_none:Value} {od_Dlaw_none:Option Addr} {an_Dlaw_none:Option Addr} {sl_Dlaw_none:Array (Option Value)} {f_Dlaw_rest:Addr} {oc_Dlaw_rest:Value} {kV_Dlaw_rest:Value} {dc_Dlaw_rest:Value} {pm_Dlaw_rest:Value} {cd_Dlaw_rest:Value} {ct_Dlaw_rest:Value} {od_Dlaw_rest:Option Addr} {an_Dlaw_rest:Option Addr} {sl_Dlaw_rest:Array (Option Value)} {f_Dlaw_worth:Addr} {oc_Dlaw_worth:Value} {kV_Dlaw_worth:Value} {dc_Dlaw_worth:Value} {pm_Dlaw_worth:Value} {cd_Dlaw_worth:Value} {ct_Dlaw_worth:Value} {od_Dlaw_worth:Option Addr} {an_Dlaw_worth:Option Addr} {sl_Dlaw_worth:Array (Option Value)} {f_MCounted_none:Addr} {oc_MCounted_none:Value} {kV_MCounted_none:Value} {dc_MCounted_none:Value} {pm_MCounted_none:Value} {cd_MCounted_none:Value} {ct_MCounted_none:Value} {od_MCounted_none:Option Addr} {an_MCounted_none:Option Addr} {sl_MCounted_none:Array (Option Value)} {f_MCounted_rest:Addr} {oc_MCounted_rest:Value} {kV_MCounted_rest:Value} {dc_MCounted_rest:Value} {pm_MCounted_rest:Value} {cd_MCounted_rest:Value} {ct_MCounted_rest:Value} {od_MCounted_rest:Option Addr} {an_MCounted_rest:Option Addr} {sl_MCounted_rest:Array (Option Value)} {f_MCounted_together:Addr} {oc_MCounted_together:Value} {kV_MCounted_together:Value} {dc_MCounted_together:Value} {pm_MCounted_together:Value} {cd_MCounted_together:Value} {ct_MCounted_together:Value} {od_MCounted_together:Option Addr} {an_MCounted_together:Option Addr} {sl_MCounted_together:Array (Option Value)} {f_MCounted_behind:Addr} {oc_MCounted_behind:Value} {kV_MCounted_behind:Value} {dc_MCounted_behind:Value} {pm_MCounted_behind:Value} {cd_MCounted_behind:Value} {ct_MCounted_behind:Value} {od_MCounted_behind:Option Addr} {an_MCounted_behind:Option Addr} {sl_MCounted_behind:Array (Option Value)} {f_MCounted_rounds:Addr} {oc_MCounted_rounds:Value} {kV_MCounted_rounds:Value} {dc_MCounted_rounds:Value} {pm_MCounted_rounds:Value} {cd_MCounted_rounds:Value} {ct_MCounted_rounds:Value} {od_MCounted_rounds:Option Addr} {an_MCounted_rounds:Option Addr} {sl_MCounted_rounds:Array (Option Value)} {f_Dis_from:Addr} {oc_Dis_from:Value} {kV_Dis_from:Value} {dc_Dis_from:Value} {pm_Dis_from:Value} {cd_Dis_from:Value} {ct_Dis_from:Value} {od_Dis_from:Option Addr} {an_Dis_from:Option Addr} {sl_Dis_from:Array (Option Value)} {f_MCounted_is_worth:Addr} {oc_MCounted_is_worth:Value} {kV_MCounted_is_worth:Value} {dc_MCounted_is_worth:Value} {pm_MCounted_is_worth:Value} {cd_MCounted_is_worth:Value} {ct_MCounted_is_worth:Value} {od_MCounted_is_worth:Option Addr} {an_MCounted_is_worth:Option Addr} {sl_MCounted_is_worth:Array (Option Value)} {f_Dcheck_numbers:Addr} {oc_Dcheck_numbers:Value} {kV_Dcheck_numbers:Value} {dc_Dcheck_numbers:Value} {pm_Dcheck_numbers:Value} {cd_Dcheck_numbers:Value} {ct_Dcheck_numbers:Value} {od_Dcheck_numbers:Option Addr} {an_Dcheck_numbers:Option Addr} {sl_Dcheck_numbers:Array (Option Value)} {f_Dcheck_ends:Addr} {oc_Dcheck_ends:Value} {kV_Dcheck_ends:Value} {dc_Dcheck_ends:Value} {pm_Dcheck_ends:Value} {cd_Dcheck_ends:Value} {ct_Dcheck_ends:Value} {od_Dcheck_ends:Option Addr} {an_Dcheck_ends:Option Addr} {sl_Dcheck_ends:Array (Option Value)} {f_MCounted_may_start_together:Addr} {oc_MCounted_may_start_together:Value} {kV_MCounted_may_start_together:Value} {dc_MCounted_may_start_together:Value} {pm_MCounted_may_start_together:Value} {cd_MCounted_may_start_together:Value} {ct_MCounted_may_start_together:Value} {od_MCounted_may_start_together:Option Addr} {an_MCounted_may_start_together:Option Addr} {sl_MCounted_may_start_together:Array (Option Value)} {f_Dcheck_starts:Addr} {oc_Dcheck_starts:Value} {kV_Dcheck_starts:Value} {dc_Dcheck_starts:Value} {pm_Dcheck_starts:Value} {cd_Dcheck_starts:Value} {ct_Dcheck_starts:Value} {od_Dcheck_starts:Option Addr} {an_Dcheck_starts:Option Addr} {sl_Dcheck_starts:Array (Option Value)} {f_Dcheck_worths:Addr} {oc_Dcheck_worths:Value} {kV_Dcheck_worths:Value} {dc_Dcheck_worths:Value} {pm_Dcheck_worths:Value} {cd_Dcheck_worths:Value} {ct_Dcheck_worths:Value} {od_Dcheck_worths:Option Addr} {an_Dcheck_worths:Option Addr} {sl_Dcheck_worths:Array (Option Value)} {f_MNet_init:Addr} {oc_MNet_init:Value} {kV_MNet_init:Value} {dc_MNet_init:Value} {pm_MNet_init:Value} {cd_MNet_init:Value} {ct_MNet_init:Value} {od_MNet_init:Option Addr} {an_MNet_init:Option Addr} {sl_MNet_init:Array (Option Value)} {f_MNet_kind:Addr} {oc_MNet_kind:Value} {kV_MNet_kind:Value} {dc_MNet_kind:Value} {pm_MNet_kind:Value} {cd_MNet_kind:Value} {ct_MNet_kind:Value} {od_MNet_kind:Option Addr} {an_MNet_kind:Option Addr} {sl_MNet_kind:Array (Option Value)} {f_MNet_places:Addr} {oc_MNet_places:Value} {kV_MNet_places:Value} {dc_MNet_places:Value} {pm_MNet_places:Value} {cd_MNet_places:Value} {ct_MNet_places:Value} {od_MNet_places:Option Addr} {an_MNet_places:Option Addr} {sl_MNet_places:Array (Option Value)} {f_MNet_roads:Addr} {oc_MNet_roads:Value} {kV_MNet_roads:Value} {dc_MNet_roads:Value} {pm_MNet_roads:Value} {cd_MNet_roads:Value} {ct_MNet_roads:Value} {od_MNet_roads:Option Addr} {an_MNet_roads:Option Addr} {sl_MNet_roads:Array (Option Value)} {f_Dlaw_tog:Addr} {oc_Dlaw_tog:Value} {kV_Dlaw_tog:Value} {dc_Dlaw_tog:Value} {pm_Dlaw_tog:Value} {cd_Dlaw_tog:Value} {ct_Dlaw_tog:Value} {od_Dlaw_tog:Option Addr} {an_Dlaw_tog:Option Addr} {sl_Dlaw_tog:Array (Option Value)} {f_Dlaw_beh:Addr} {oc_Dlaw_beh:Value} {kV_Dlaw_beh:Value} {dc_Dlaw_beh:Value} {pm_Dlaw_beh:Value} {cd_Dlaw_beh:Value} {ct_Dlaw_beh:Value} {od_Dlaw_beh:Option Addr} {an_Dlaw_beh:Option Addr} {sl_Dlaw_beh:Array (Option Value)} {f_Dlaw_whole:Addr} {oc_Dlaw_whole:Value} {kV_Dlaw_whole:Value} {dc_Dlaw_whole:Value} {pm_Dlaw_whole:Value} {cd_Dlaw_whole:Value} {ct_Dlaw_whole:Value} {od_Dlaw_whole:Option Addr} {an_Dlaw_whole:Option Addr} {sl_Dlaw_whole:Array (Option Value)} {f_Dlaw_is:Addr} {oc_Dlaw_is:Value} {kV_Dlaw_is:Value} {dc_Dlaw_is:Value} {pm_Dlaw_is:Value} {cd_Dlaw_is:Value} {ct_Dlaw_is:Value} {od_Dlaw_is:Option Addr} {an_Dlaw_is:Option Addr} {sl_Dlaw_is:Array (Option Value)} {f_Dlaw_thinned:Addr} {oc_Dlaw_thinned:Value} {kV_Dlaw_thinned:Value} {dc_Dlaw_thinned:Value} {pm_Dlaw_thinned:Value} {cd_Dlaw_thinned:Value} {ct_Dlaw_thinned:Value} {od_Dlaw_thinned:Option Addr} {an_Dlaw_thinned:Option Addr} {sl_Dlaw_thinned:Array (Option Value)} {f_Dlaw_net:Addr} {oc_Dlaw_net:Value} {kV_Dlaw_net:Value} {dc_Dlaw_net:Value} {pm_Dlaw_net:Value} {cd_Dlaw_net:Value} {ct_Dlaw_net:Value} {od_Dlaw_net:Option Addr} {an_Dlaw_net:Option Addr} {sl_Dlaw_net:Array (Option Value)} {f_Dstraight:Addr} {oc_Dstraight:Value} {kV_Dstraight:Value} {dc_Dstraight:Value} {pm_Dstraight:Value} {cd_Dstraight:Value} {ct_Dstraight:Value} {od_Dstraight:Option Addr} {an_Dstraight:Option Addr} {sl_Dstraight:Array (Option Value)} {f_Dled_through:Addr} {oc_Dled_through:Value} {kV_Dled_through:Value} {dc_Dled_through:Value} {pm_Dled_through:Value} {cd_Dled_through:Value} {ct_Dled_through:Value} {od_Dled_through:Option Addr} {an_Dled_through:Option Addr} {sl_Dled_through:Array (Option Value)} {f_Dtable:Addr} {oc_Dtable:Value} {kV_Dtable:Value} {dc_Dtable:Value} {pm_Dtable:Value} {cd_Dtable:Value} {ct_Dtable:Value} {od_Dtable:Option Addr} {an_Dtable:Option Addr} {sl_Dtable:Array (Option Value)} {f_Dlaw_steps:Addr} {oc_Dlaw_steps:Value} {kV_Dlaw_steps:Value} {dc_Dlaw_steps:Value} {pm_Dlaw_steps:Value} {cd_Dlaw_steps:Value} {ct_Dlaw_steps:Value} {od_Dlaw_steps:Option Addr} {an_Dlaw_steps:Option Addr} {sl_Dlaw_steps:Array (Option Value)} {f_Dlaw_comes:Addr} {oc_Dlaw_comes:Value} {kV_Dlaw_comes:Value} {dc_Dlaw_comes:Value} {pm_Dlaw_comes:Value} {cd_Dlaw_comes:Value} {ct_Dlaw_comes:Value} {od_Dlaw_comes:Option Addr} {an_Dlaw_comes:Option Addr} {sl_Dlaw_comes:Array (Option Value)} {f_Dlaw_endless:Addr} {oc_Dlaw_endless:Value} {kV_Dlaw_endless:Value} {dc_Dlaw_endless:Value} {pm_Dlaw_endless:Value} {cd_Dlaw_endless:Value} {ct_Dlaw_endless:Value} {od_Dlaw_endless:Option Addr} {an_Dlaw_endless:Option Addr} {sl_Dlaw_endless:Array (Option Value)} {f_Dlaw:Addr} {oc_Dlaw:Value} {kV_Dlaw:Value} {dc_Dlaw:Value} {pm_Dlaw:Value} {cd_Dlaw:Value} {ct_Dlaw:Value} {od_Dlaw:Option Addr} {an_Dlaw:Option Addr} {sl_Dlaw:Array (Option Value)}
    (g_SumError:PySem.W.nsIn K mainGlobals "SumError"=some (some (.ref c_SumError)))
    (g_NoNet:PySem.W.nsIn K mainGlobals "NoNet"=some (some (.ref c_NoNet)))
    (g_NoWorth:PySem.W.nsIn K mainGlobals "NoWorth"=some (some (.ref c_NoWorth)))
    (g_Kind:PySem.W.nsIn K mainGlobals "Kind"=some (some (.ref c_Kind)))
    (g_Counted:PySem.W.nsIn K mainGlobals "Counted"=some (some (.ref c_Counted)))
    (g_Net:PySem.W.nsIn K mainGlobals "Net"=some (some (.ref c_Net)))
    (g_MOST_PLACES:PySem.W.nsIn K mainGlobals "MOST_PLACES"=some (some (.int 8 t_MOST_PLACES)))
    (g_MOST_ROADS:PySem.W.nsIn K mainGlobals "MOST_ROADS"=some (some (.int 64 t_MOST_ROADS)))
    (z_isinstance:PySem.W.nsIn K mainGlobals "isinstance"=some none)
    (z_len:PySem.W.nsIn K mainGlobals "len"=some none)
    (z_int:PySem.W.nsIn K mainGlobals "int"=some none)
    (z_bool:PySem.W.nsIn K mainGlobals "bool"=some none)
    (z_tuple:PySem.W.nsIn K mainGlobals "tuple"=some none)
    (z_list:PySem.W.nsIn K mainGlobals "list"=some none)
    (z_ValueError:PySem.W.nsIn K mainGlobals "ValueError"=some none)
    (z_range:PySem.W.nsIn K mainGlobals "range"=some none)
    (z_min:PySem.W.nsIn K mainGlobals "min"=some none)
    (z_max:PySem.W.nsIn K mainGlobals "max"=some none)
    (z_enumerate:PySem.W.nsIn K mainGlobals "enumerate"=some none)
    (xo_NoNet:PySem.W.excIn K c_NoNet bmV "ValueError.__new__"=true)
    (xa_NoNet:(PySem.W.clsIn K c_NoNet).isSome=true)
    (xb_NoNet:PySem.W.findIn K (.ref c_NoNet) "__getattribute__"=some (some (.builtin "BaseException.__getattribute__")))
    (xc_NoNet:PySem.W.findIn K (.ref c_NoNet) "__getattr__"=some none)
    (xd_NoNet:PySem.W.findIn K (.ref c_NoNet) "__class__"=some (some (.builtin "object.__class__")))
    (xe_NoNet:PySem.W.subIn K (.ref c_NoNet) (.type "BaseException")=some true)
    (xf_NoNet:PySem.W.subIn K (.ref c_NoNet) (.type "object")=some true)
    (xo_NoWorth:PySem.W.excIn K c_NoWorth bmV "ValueError.__new__"=true)
    (xa_NoWorth:(PySem.W.clsIn K c_NoWorth).isSome=true)
    (xb_NoWorth:PySem.W.findIn K (.ref c_NoWorth) "__getattribute__"=some (some (.builtin "BaseException.__getattribute__")))
    (xc_NoWorth:PySem.W.findIn K (.ref c_NoWorth) "__getattr__"=some none)
    (xd_NoWorth:PySem.W.findIn K (.ref c_NoWorth) "__class__"=some (some (.builtin "object.__class__")))
    (xe_NoWorth:PySem.W.subIn K (.ref c_NoWorth) (.type "BaseException")=some true)
    (xf_NoWorth:PySem.W.subIn K (.ref c_NoWorth) (.type "object")=some true)
    (mk_Counted:PySem.W.makesIn K c_Counted=true)
    (in_Counted:PySem.W.findIn K (.ref c_Counted) "__init__"=some (some (.builtin "object.__init__")))
    (kp_Counted:PySem.W.keepIn K (.ref c_Counted)=true)
    (mk_Net:PySem.W.makesIn K c_Net=true)
    (kp_Net:PySem.W.keepIn K (.ref c_Net)=true)
    (na_Net_own_kind:PySem.W.findIn K (.ref c_Net) "own_kind"=some none)
    (na_Net_how_many:PySem.W.findIn K (.ref c_Net) "how_many"=some none)
    (na_Net_own_roads:PySem.W.findIn K (.ref c_Net) "own_roads"=some none)
    (pg_Net:PySem.W.plainGet K c_Net Str.empty=true)
    (hd_Net:PySem.W.hasDictIn K c_Net=true)
    (po_Net:PySem.W.plainOver K c_Net=true)
    (sa_Net:PySem.W.findIn K (.ref c_Net) "__setattr__"=some (some (.builtin "object.__setattr__")))
    (pg_Counted:PySem.W.plainGet K c_Counted Str.empty=true)
    (hd_Counted:PySem.W.hasDictIn K c_Counted=true)
    (po_Counted:PySem.W.plainOver K c_Counted=true)
    (sa_Counted:PySem.W.findIn K (.ref c_Counted) "__setattr__"=some (some (.builtin "object.__setattr__")))
    (a_Dlaw_cell_at:PySem.W.nsIn K mainGlobals "_law_cell_at"=some (some (.ref f_Dlaw_cell_at)))
    (l_Dlaw_cell_at:K.lookup f_Dlaw_cell_at=some ⟨oc_Dlaw_cell_at,od_Dlaw_cell_at,.func (PySem.W.fnOf "_law_cell_at" "_law_cell_at" (defArgs (top 22)) (defBody (top 22)) (defScope (top 22)) .none kV_Dlaw_cell_at dc_Dlaw_cell_at pm_Dlaw_cell_at an_Dlaw_cell_at cd_Dlaw_cell_at ct_Dlaw_cell_at),sl_Dlaw_cell_at⟩)
    (c_Dlaw_cell_at_:PySem.W.codeIn K cd_Dlaw_cell_at "_law_cell_at"=true)
    (k_Dlaw_cell_at:PySem.W.keepIn K (.ref f_Dlaw_cell_at)=true)
    (a_Dlaw_share:PySem.W.nsIn K mainGlobals "_law_share"=some (some (.ref f_Dlaw_share)))
    (l_Dlaw_share:K.lookup f_Dlaw_share=some ⟨oc_Dlaw_share,od_Dlaw_share,.func (PySem.W.fnOf "_law_share" "_law_share" (defArgs (top 24)) (defBody (top 24)) (defScope (top 24)) .none kV_Dlaw_share dc_Dlaw_share pm_Dlaw_share an_Dlaw_share cd_Dlaw_share ct_Dlaw_share),sl_Dlaw_share⟩)
    (c_Dlaw_share_:PySem.W.codeIn K cd_Dlaw_share "_law_share"=true)
    (k_Dlaw_share:PySem.W.keepIn K (.ref f_Dlaw_share)=true)
    (a_Dlaw_none:PySem.W.nsIn K mainGlobals "_law_none"=some (some (.ref f_Dlaw_none)))
    (l_Dlaw_none:K.lookup f_Dlaw_none=some ⟨oc_Dlaw_none,od_Dlaw_none,.func (PySem.W.fnOf "_law_none" "_law_none" (defArgs (top 25)) (defBody (top 25)) (defScope (top 25)) .none kV_Dlaw_none dc_Dlaw_none pm_Dlaw_none an_Dlaw_none cd_Dlaw_none ct_Dlaw_none),sl_Dlaw_none⟩)
    (c_Dlaw_none_:PySem.W.codeIn K cd_Dlaw_none "_law_none"=true)
    (k_Dlaw_none:PySem.W.keepIn K (.ref f_Dlaw_none)=true)
    (a_Dlaw_rest:PySem.W.nsIn K mainGlobals "_law_rest"=some (some (.ref f_Dlaw_rest)))
    (l_Dlaw_rest:K.lookup f_Dlaw_rest=some ⟨oc_Dlaw_rest,od_Dlaw_rest,.func (PySem.W.fnOf "_law_rest" "_law_rest" (defArgs (top 26)) (defBody (top 26)) (defScope (top 26)) .none kV_Dlaw_rest dc_Dlaw_rest pm_Dlaw_rest an_Dlaw_rest cd_Dlaw_rest ct_Dlaw_rest),sl_Dlaw_rest⟩)
    (c_Dlaw_rest_:PySem.W.codeIn K cd_Dlaw_rest "_law_rest"=true)
    (k_Dlaw_rest:PySem.W.keepIn K (.ref f_Dlaw_rest)=true)
    (a_Dlaw_worth:PySem.W.nsIn K mainGlobals "_law_worth"=some (some (.ref f_Dlaw_worth)))
    (l_Dlaw_worth:K.lookup f_Dlaw_worth=some ⟨oc_Dlaw_worth,od_Dlaw_worth,.func (PySem.W.fnOf "_law_worth" "_law_worth" (defArgs (top 29)) (defBody (top 29)) (defScope (top 29)) .none kV_Dlaw_worth dc_Dlaw_worth pm_Dlaw_worth an_Dlaw_worth cd_Dlaw_worth ct_Dlaw_worth),sl_Dlaw_worth⟩)
    (c_Dlaw_worth_:PySem.W.codeIn K cd_Dlaw_worth "_law_worth"=true)
    (k_Dlaw_worth:PySem.W.keepIn K (.ref f_Dlaw_worth)=true)
    (a_MCounted_none:PySem.W.findIn K (.ref c_Counted) "none"=some (some (.ref f_MCounted_none)))
    (i_MCounted_none:PySem.W.isFn K (.ref f_MCounted_none)=true)
    (l_MCounted_none:K.lookup f_MCounted_none=some ⟨oc_MCounted_none,od_MCounted_none,.func (PySem.W.fnOf "none" "Counted.none" (defArgs (inClass (top 8) 0)) (defBody (inClass (top 8) 0)) (defScope (inClass (top 8) 0)) .none kV_MCounted_none dc_MCounted_none pm_MCounted_none an_MCounted_none cd_MCounted_none ct_MCounted_none),sl_MCounted_none⟩)
    (c_MCounted_none_:PySem.W.codeIn K cd_MCounted_none "Counted.none"=true)
    (k_MCounted_none:PySem.W.keepIn K (.ref f_MCounted_none)=true)
    (a_MCounted_rest:PySem.W.findIn K (.ref c_Counted) "rest"=some (some (.ref f_MCounted_rest)))
    (i_MCounted_rest:PySem.W.isFn K (.ref f_MCounted_rest)=true)
    (l_MCounted_rest:K.lookup f_MCounted_rest=some ⟨oc_MCounted_rest,od_MCounted_rest,.func (PySem.W.fnOf "rest" "Counted.rest" (defArgs (inClass (top 8) 1)) (defBody (inClass (top 8) 1)) (defScope (inClass (top 8) 1)) .none kV_MCounted_rest dc_MCounted_rest pm_MCounted_rest an_MCounted_rest cd_MCounted_rest ct_MCounted_rest),sl_MCounted_rest⟩)
    (c_MCounted_rest_:PySem.W.codeIn K cd_MCounted_rest "Counted.rest"=true)
    (k_MCounted_rest:PySem.W.keepIn K (.ref f_MCounted_rest)=true)
    (a_MCounted_together:PySem.W.findIn K (.ref c_Counted) "together"=some (some (.ref f_MCounted_together)))
    (i_MCounted_together:PySem.W.isFn K (.ref f_MCounted_together)=true)
    (l_MCounted_together:K.lookup f_MCounted_together=some ⟨oc_MCounted_together,od_MCounted_together,.func (PySem.W.fnOf "together" "Counted.together" (defArgs (inClass (top 8) 3)) (defBody (inClass (top 8) 3)) (defScope (inClass (top 8) 3)) .none kV_MCounted_together dc_MCounted_together pm_MCounted_together an_MCounted_together cd_MCounted_together ct_MCounted_together),sl_MCounted_together⟩)
    (c_MCounted_together_:PySem.W.codeIn K cd_MCounted_together "Counted.together"=true)
    (k_MCounted_together:PySem.W.keepIn K (.ref f_MCounted_together)=true)
    (a_MCounted_behind:PySem.W.findIn K (.ref c_Counted) "behind"=some (some (.ref f_MCounted_behind)))
    (i_MCounted_behind:PySem.W.isFn K (.ref f_MCounted_behind)=true)
    (l_MCounted_behind:K.lookup f_MCounted_behind=some ⟨oc_MCounted_behind,od_MCounted_behind,.func (PySem.W.fnOf "behind" "Counted.behind" (defArgs (inClass (top 8) 4)) (defBody (inClass (top 8) 4)) (defScope (inClass (top 8) 4)) .none kV_MCounted_behind dc_MCounted_behind pm_MCounted_behind an_MCounted_behind cd_MCounted_behind ct_MCounted_behind),sl_MCounted_behind⟩)
    (c_MCounted_behind_:PySem.W.codeIn K cd_MCounted_behind "Counted.behind"=true)
    (k_MCounted_behind:PySem.W.keepIn K (.ref f_MCounted_behind)=true)
    (a_MCounted_rounds:PySem.W.findIn K (.ref c_Counted) "rounds"=some (some (.ref f_MCounted_rounds)))
    (i_MCounted_rounds:PySem.W.isFn K (.ref f_MCounted_rounds)=true)
    (l_MCounted_rounds:K.lookup f_MCounted_rounds=some ⟨oc_MCounted_rounds,od_MCounted_rounds,.func (PySem.W.fnOf "rounds" "Counted.rounds" (defArgs (inClass (top 8) 5)) (defBody (inClass (top 8) 5)) (defScope (inClass (top 8) 5)) .none kV_MCounted_rounds dc_MCounted_rounds pm_MCounted_rounds an_MCounted_rounds cd_MCounted_rounds ct_MCounted_rounds),sl_MCounted_rounds⟩)
    (c_MCounted_rounds_:PySem.W.codeIn K cd_MCounted_rounds "Counted.rounds"=true)
    (k_MCounted_rounds:PySem.W.keepIn K (.ref f_MCounted_rounds)=true)
    (a_Dis_from:PySem.W.nsIn K mainGlobals "is_from"=some (some (.ref f_Dis_from)))
    (l_Dis_from:K.lookup f_Dis_from=some ⟨oc_Dis_from,od_Dis_from,.func (PySem.W.fnOf "is_from" "is_from" (defArgs (top 6)) (defBody (top 6)) (defScope (top 6)) .none kV_Dis_from dc_Dis_from pm_Dis_from an_Dis_from cd_Dis_from ct_Dis_from),sl_Dis_from⟩)
    (c_Dis_from_:PySem.W.codeIn K cd_Dis_from "is_from"=true)
    (k_Dis_from:PySem.W.keepIn K (.ref f_Dis_from)=true)
    (a_MCounted_is_worth:PySem.W.findIn K (.ref c_Counted) "is_worth"=some (some (.ref f_MCounted_is_worth)))
    (i_MCounted_is_worth:PySem.W.isFn K (.ref f_MCounted_is_worth)=true)
    (l_MCounted_is_worth:K.lookup f_MCounted_is_worth=some ⟨oc_MCounted_is_worth,od_MCounted_is_worth,.func (PySem.W.fnOf "is_worth" "Counted.is_worth" (defArgs (inClass (top 8) 2)) (defBody (inClass (top 8) 2)) (defScope (inClass (top 8) 2)) .none kV_MCounted_is_worth dc_MCounted_is_worth pm_MCounted_is_worth an_MCounted_is_worth cd_MCounted_is_worth ct_MCounted_is_worth),sl_MCounted_is_worth⟩)
    (c_MCounted_is_worth_:PySem.W.codeIn K cd_MCounted_is_worth "Counted.is_worth"=true)
    (k_MCounted_is_worth:PySem.W.keepIn K (.ref f_MCounted_is_worth)=true)
    (a_Dcheck_numbers:PySem.W.nsIn K mainGlobals "check_numbers"=some (some (.ref f_Dcheck_numbers)))
    (l_Dcheck_numbers:K.lookup f_Dcheck_numbers=some ⟨oc_Dcheck_numbers,od_Dcheck_numbers,.func (PySem.W.fnOf "check_numbers" "check_numbers" (defArgs (top 12)) (defBody (top 12)) (defScope (top 12)) .none kV_Dcheck_numbers dc_Dcheck_numbers pm_Dcheck_numbers an_Dcheck_numbers cd_Dcheck_numbers ct_Dcheck_numbers),sl_Dcheck_numbers⟩)
    (c_Dcheck_numbers_:PySem.W.codeIn K cd_Dcheck_numbers "check_numbers"=true)
    (k_Dcheck_numbers:PySem.W.keepIn K (.ref f_Dcheck_numbers)=true)
    (a_Dcheck_ends:PySem.W.nsIn K mainGlobals "check_ends"=some (some (.ref f_Dcheck_ends)))
    (l_Dcheck_ends:K.lookup f_Dcheck_ends=some ⟨oc_Dcheck_ends,od_Dcheck_ends,.func (PySem.W.fnOf "check_ends" "check_ends" (defArgs (top 13)) (defBody (top 13)) (defScope (top 13)) .none kV_Dcheck_ends dc_Dcheck_ends pm_Dcheck_ends an_Dcheck_ends cd_Dcheck_ends ct_Dcheck_ends),sl_Dcheck_ends⟩)
    (c_Dcheck_ends_:PySem.W.codeIn K cd_Dcheck_ends "check_ends"=true)
    (k_Dcheck_ends:PySem.W.keepIn K (.ref f_Dcheck_ends)=true)
    (a_MCounted_may_start_together:PySem.W.findIn K (.ref c_Counted) "may_start_together"=some (some (.ref f_MCounted_may_start_together)))
    (i_MCounted_may_start_together:PySem.W.isFn K (.ref f_MCounted_may_start_together)=true)
    (l_MCounted_may_start_together:K.lookup f_MCounted_may_start_together=some ⟨oc_MCounted_may_start_together,od_MCounted_may_start_together,.func (PySem.W.fnOf "may_start_together" "Kind.may_start_together" (defArgs (inClass (top 7) 7)) (defBody (inClass (top 7) 7)) (defScope (inClass (top 7) 7)) .none kV_MCounted_may_start_together dc_MCounted_may_start_together pm_MCounted_may_start_together an_MCounted_may_start_together cd_MCounted_may_start_together ct_MCounted_may_start_together),sl_MCounted_may_start_together⟩)
    (c_MCounted_may_start_together_:PySem.W.codeIn K cd_MCounted_may_start_together "Kind.may_start_together"=true)
    (k_MCounted_may_start_together:PySem.W.keepIn K (.ref f_MCounted_may_start_together)=true)
    (a_Dcheck_starts:PySem.W.nsIn K mainGlobals "check_starts"=some (some (.ref f_Dcheck_starts)))
    (l_Dcheck_starts:K.lookup f_Dcheck_starts=some ⟨oc_Dcheck_starts,od_Dcheck_starts,.func (PySem.W.fnOf "check_starts" "check_starts" (defArgs (top 14)) (defBody (top 14)) (defScope (top 14)) .none kV_Dcheck_starts dc_Dcheck_starts pm_Dcheck_starts an_Dcheck_starts cd_Dcheck_starts ct_Dcheck_starts),sl_Dcheck_starts⟩)
    (c_Dcheck_starts_:PySem.W.codeIn K cd_Dcheck_starts "check_starts"=true)
    (k_Dcheck_starts:PySem.W.keepIn K (.ref f_Dcheck_starts)=true)
    (a_Dcheck_worths:PySem.W.nsIn K mainGlobals "check_worths"=some (some (.ref f_Dcheck_worths)))
    (l_Dcheck_worths:K.lookup f_Dcheck_worths=some ⟨oc_Dcheck_worths,od_Dcheck_worths,.func (PySem.W.fnOf "check_worths" "check_worths" (defArgs (top 15)) (defBody (top 15)) (defScope (top 15)) .none kV_Dcheck_worths dc_Dcheck_worths pm_Dcheck_worths an_Dcheck_worths cd_Dcheck_worths ct_Dcheck_worths),sl_Dcheck_worths⟩)
    (c_Dcheck_worths_:PySem.W.codeIn K cd_Dcheck_worths "check_worths"=true)
    (k_Dcheck_worths:PySem.W.keepIn K (.ref f_Dcheck_worths)=true)
    (a_MNet_init:PySem.W.findIn K (.ref c_Net) "__init__"=some (some (.ref f_MNet_init)))
    (i_MNet_init:PySem.W.isFn K (.ref f_MNet_init)=true)
    (l_MNet_init:K.lookup f_MNet_init=some ⟨oc_MNet_init,od_MNet_init,.func (PySem.W.fnOf "__init__" "Net.__init__" (defArgs (inClass (top 16) 0)) (defBody (inClass (top 16) 0)) (defScope (inClass (top 16) 0)) .none kV_MNet_init dc_MNet_init pm_MNet_init an_MNet_init cd_MNet_init ct_MNet_init),sl_MNet_init⟩)
    (c_MNet_init_:PySem.W.codeIn K cd_MNet_init "Net.__init__"=true)
    (k_MNet_init:PySem.W.keepIn K (.ref f_MNet_init)=true)
    (a_MNet_kind:PySem.W.findIn K (.ref c_Net) "kind"=some (some (.ref f_MNet_kind)))
    (i_MNet_kind:PySem.W.isFn K (.ref f_MNet_kind)=true)
    (l_MNet_kind:K.lookup f_MNet_kind=some ⟨oc_MNet_kind,od_MNet_kind,.func (PySem.W.fnOf "kind" "Net.kind" (defArgs (inClass (top 16) 1)) (defBody (inClass (top 16) 1)) (defScope (inClass (top 16) 1)) .none kV_MNet_kind dc_MNet_kind pm_MNet_kind an_MNet_kind cd_MNet_kind ct_MNet_kind),sl_MNet_kind⟩)
    (c_MNet_kind_:PySem.W.codeIn K cd_MNet_kind "Net.kind"=true)
    (k_MNet_kind:PySem.W.keepIn K (.ref f_MNet_kind)=true)
    (a_MNet_places:PySem.W.findIn K (.ref c_Net) "places"=some (some (.ref f_MNet_places)))
    (i_MNet_places:PySem.W.isFn K (.ref f_MNet_places)=true)
    (l_MNet_places:K.lookup f_MNet_places=some ⟨oc_MNet_places,od_MNet_places,.func (PySem.W.fnOf "places" "Net.places" (defArgs (inClass (top 16) 2)) (defBody (inClass (top 16) 2)) (defScope (inClass (top 16) 2)) .none kV_MNet_places dc_MNet_places pm_MNet_places an_MNet_places cd_MNet_places ct_MNet_places),sl_MNet_places⟩)
    (c_MNet_places_:PySem.W.codeIn K cd_MNet_places "Net.places"=true)
    (k_MNet_places:PySem.W.keepIn K (.ref f_MNet_places)=true)
    (a_MNet_roads:PySem.W.findIn K (.ref c_Net) "roads"=some (some (.ref f_MNet_roads)))
    (i_MNet_roads:PySem.W.isFn K (.ref f_MNet_roads)=true)
    (l_MNet_roads:K.lookup f_MNet_roads=some ⟨oc_MNet_roads,od_MNet_roads,.func (PySem.W.fnOf "roads" "Net.roads" (defArgs (inClass (top 16) 3)) (defBody (inClass (top 16) 3)) (defScope (inClass (top 16) 3)) .none kV_MNet_roads dc_MNet_roads pm_MNet_roads an_MNet_roads cd_MNet_roads ct_MNet_roads),sl_MNet_roads⟩)
    (c_MNet_roads_:PySem.W.codeIn K cd_MNet_roads "Net.roads"=true)
    (k_MNet_roads:PySem.W.keepIn K (.ref f_MNet_roads)=true)
    (a_Dlaw_tog:PySem.W.nsIn K mainGlobals "_law_tog"=some (some (.ref f_Dlaw_tog)))
    (l_Dlaw_tog:K.lookup f_Dlaw_tog=some ⟨oc_Dlaw_tog,od_Dlaw_tog,.func (PySem.W.fnOf "_law_tog" "_law_tog" (defArgs (top 27)) (defBody (top 27)) (defScope (top 27)) .none kV_Dlaw_tog dc_Dlaw_tog pm_Dlaw_tog an_Dlaw_tog cd_Dlaw_tog ct_Dlaw_tog),sl_Dlaw_tog⟩)
    (c_Dlaw_tog_:PySem.W.codeIn K cd_Dlaw_tog "_law_tog"=true)
    (k_Dlaw_tog:PySem.W.keepIn K (.ref f_Dlaw_tog)=true)
    (a_Dlaw_beh:PySem.W.nsIn K mainGlobals "_law_beh"=some (some (.ref f_Dlaw_beh)))
    (l_Dlaw_beh:K.lookup f_Dlaw_beh=some ⟨oc_Dlaw_beh,od_Dlaw_beh,.func (PySem.W.fnOf "_law_beh" "_law_beh" (defArgs (top 28)) (defBody (top 28)) (defScope (top 28)) .none kV_Dlaw_beh dc_Dlaw_beh pm_Dlaw_beh an_Dlaw_beh cd_Dlaw_beh ct_Dlaw_beh),sl_Dlaw_beh⟩)
    (c_Dlaw_beh_:PySem.W.codeIn K cd_Dlaw_beh "_law_beh"=true)
    (k_Dlaw_beh:PySem.W.keepIn K (.ref f_Dlaw_beh)=true)
    (a_Dlaw_whole:PySem.W.nsIn K mainGlobals "_law_whole"=some (some (.ref f_Dlaw_whole)))
    (l_Dlaw_whole:K.lookup f_Dlaw_whole=some ⟨oc_Dlaw_whole,od_Dlaw_whole,.func (PySem.W.fnOf "_law_whole" "_law_whole" (defArgs (top 23)) (defBody (top 23)) (defScope (top 23)) .none kV_Dlaw_whole dc_Dlaw_whole pm_Dlaw_whole an_Dlaw_whole cd_Dlaw_whole ct_Dlaw_whole),sl_Dlaw_whole⟩)
    (c_Dlaw_whole_:PySem.W.codeIn K cd_Dlaw_whole "_law_whole"=true)
    (k_Dlaw_whole:PySem.W.keepIn K (.ref f_Dlaw_whole)=true)
    (a_Dlaw_is:PySem.W.nsIn K mainGlobals "_law_is"=some (some (.ref f_Dlaw_is)))
    (l_Dlaw_is:K.lookup f_Dlaw_is=some ⟨oc_Dlaw_is,od_Dlaw_is,.func (PySem.W.fnOf "_law_is" "_law_is" (defArgs (top 30)) (defBody (top 30)) (defScope (top 30)) .none kV_Dlaw_is dc_Dlaw_is pm_Dlaw_is an_Dlaw_is cd_Dlaw_is ct_Dlaw_is),sl_Dlaw_is⟩)
    (c_Dlaw_is_:PySem.W.codeIn K cd_Dlaw_is "_law_is"=true)
    (k_Dlaw_is:PySem.W.keepIn K (.ref f_Dlaw_is)=true)
    (a_Dlaw_thinned:PySem.W.nsIn K mainGlobals "_law_thinned"=some (some (.ref f_Dlaw_thinned)))
    (l_Dlaw_thinned:K.lookup f_Dlaw_thinned=some ⟨oc_Dlaw_thinned,od_Dlaw_thinned,.func (PySem.W.fnOf "_law_thinned" "_law_thinned" (defArgs (top 31)) (defBody (top 31)) (defScope (top 31)) .none kV_Dlaw_thinned dc_Dlaw_thinned pm_Dlaw_thinned an_Dlaw_thinned cd_Dlaw_thinned ct_Dlaw_thinned),sl_Dlaw_thinned⟩)
    (c_Dlaw_thinned_:PySem.W.codeIn K cd_Dlaw_thinned "_law_thinned"=true)
    (k_Dlaw_thinned:PySem.W.keepIn K (.ref f_Dlaw_thinned)=true)
    (a_Dlaw_net:PySem.W.nsIn K mainGlobals "_law_net"=some (some (.ref f_Dlaw_net)))
    (l_Dlaw_net:K.lookup f_Dlaw_net=some ⟨oc_Dlaw_net,od_Dlaw_net,.func (PySem.W.fnOf "_law_net" "_law_net" (defArgs (top 32)) (defBody (top 32)) (defScope (top 32)) .none kV_Dlaw_net dc_Dlaw_net pm_Dlaw_net an_Dlaw_net cd_Dlaw_net ct_Dlaw_net),sl_Dlaw_net⟩)
    (c_Dlaw_net_:PySem.W.codeIn K cd_Dlaw_net "_law_net"=true)
    (k_Dlaw_net:PySem.W.keepIn K (.ref f_Dlaw_net)=true)
    (a_Dstraight:PySem.W.nsIn K mainGlobals "straight"=some (some (.ref f_Dstraight)))
    (l_Dstraight:K.lookup f_Dstraight=some ⟨oc_Dstraight,od_Dstraight,.func (PySem.W.fnOf "straight" "straight" (defArgs (top 18)) (defBody (top 18)) (defScope (top 18)) .none kV_Dstraight dc_Dstraight pm_Dstraight an_Dstraight cd_Dstraight ct_Dstraight),sl_Dstraight⟩)
    (c_Dstraight_:PySem.W.codeIn K cd_Dstraight "straight"=true)
    (k_Dstraight:PySem.W.keepIn K (.ref f_Dstraight)=true)
    (a_Dled_through:PySem.W.nsIn K mainGlobals "led_through"=some (some (.ref f_Dled_through)))
    (l_Dled_through:K.lookup f_Dled_through=some ⟨oc_Dled_through,od_Dled_through,.func (PySem.W.fnOf "led_through" "led_through" (defArgs (top 19)) (defBody (top 19)) (defScope (top 19)) .none kV_Dled_through dc_Dled_through pm_Dled_through an_Dled_through cd_Dled_through ct_Dled_through),sl_Dled_through⟩)
    (c_Dled_through_:PySem.W.codeIn K cd_Dled_through "led_through"=true)
    (k_Dled_through:PySem.W.keepIn K (.ref f_Dled_through)=true)
    (a_Dtable:PySem.W.nsIn K mainGlobals "table"=some (some (.ref f_Dtable)))
    (l_Dtable:K.lookup f_Dtable=some ⟨oc_Dtable,od_Dtable,.func (PySem.W.fnOf "table" "table" (defArgs (top 20)) (defBody (top 20)) (defScope (top 20)) .none kV_Dtable dc_Dtable pm_Dtable an_Dtable cd_Dtable ct_Dtable),sl_Dtable⟩)
    (c_Dtable_:PySem.W.codeIn K cd_Dtable "table"=true)
    (k_Dtable:PySem.W.keepIn K (.ref f_Dtable)=true)
    (a_Dlaw_steps:PySem.W.nsIn K mainGlobals "_law_steps"=some (some (.ref f_Dlaw_steps)))
    (l_Dlaw_steps:K.lookup f_Dlaw_steps=some ⟨oc_Dlaw_steps,od_Dlaw_steps,.func (PySem.W.fnOf "_law_steps" "_law_steps" (defArgs (top 33)) (defBody (top 33)) (defScope (top 33)) .none kV_Dlaw_steps dc_Dlaw_steps pm_Dlaw_steps an_Dlaw_steps cd_Dlaw_steps ct_Dlaw_steps),sl_Dlaw_steps⟩)
    (c_Dlaw_steps_:PySem.W.codeIn K cd_Dlaw_steps "_law_steps"=true)
    (k_Dlaw_steps:PySem.W.keepIn K (.ref f_Dlaw_steps)=true)
    (a_Dlaw_comes:PySem.W.nsIn K mainGlobals "_law_comes"=some (some (.ref f_Dlaw_comes)))
    (l_Dlaw_comes:K.lookup f_Dlaw_comes=some ⟨oc_Dlaw_comes,od_Dlaw_comes,.func (PySem.W.fnOf "_law_comes" "_law_comes" (defArgs (top 34)) (defBody (top 34)) (defScope (top 34)) .none kV_Dlaw_comes dc_Dlaw_comes pm_Dlaw_comes an_Dlaw_comes cd_Dlaw_comes ct_Dlaw_comes),sl_Dlaw_comes⟩)
    (c_Dlaw_comes_:PySem.W.codeIn K cd_Dlaw_comes "_law_comes"=true)
    (k_Dlaw_comes:PySem.W.keepIn K (.ref f_Dlaw_comes)=true)
    (a_Dlaw_endless:PySem.W.nsIn K mainGlobals "_law_endless"=some (some (.ref f_Dlaw_endless)))
    (l_Dlaw_endless:K.lookup f_Dlaw_endless=some ⟨oc_Dlaw_endless,od_Dlaw_endless,.func (PySem.W.fnOf "_law_endless" "_law_endless" (defArgs (top 35)) (defBody (top 35)) (defScope (top 35)) .none kV_Dlaw_endless dc_Dlaw_endless pm_Dlaw_endless an_Dlaw_endless cd_Dlaw_endless ct_Dlaw_endless),sl_Dlaw_endless⟩)
    (c_Dlaw_endless_:PySem.W.codeIn K cd_Dlaw_endless "_law_endless"=true)
    (k_Dlaw_endless:PySem.W.keepIn K (.ref f_Dlaw_endless)=true)
    (a_Dlaw:PySem.W.nsIn K mainGlobals "law"=some (some (.ref f_Dlaw)))
    (l_Dlaw:K.lookup f_Dlaw=some ⟨oc_Dlaw,od_Dlaw,.func (PySem.W.fnOf "law" "law" (defArgs (top 36)) (defBody (top 36)) (defScope (top 36)) .none kV_Dlaw dc_Dlaw pm_Dlaw an_Dlaw cd_Dlaw ct_Dlaw),sl_Dlaw⟩)
    (c_Dlaw_:PySem.W.codeIn K cd_Dlaw "law"=true)
    (k_Dlaw:PySem.W.keepIn K (.ref f_Dlaw)=true) :
    ∃ fd:FuncData,(∀ (s:Shared) (v:Value),BindsTo s fd ⟨[v],[]⟩ [("script",v)])∧∀ base:Heap,K.In base→base.Ns mainGlobals mg→FnOk l.prog w K mg base (CXE l.prog w) 42 fa fd ["script"] (spLaw K):=by
  have e:=hfa.symm.trans (PySem.W.mg_of X G a_Dlaw)
  cases e
  refine ⟨PySem.W.fnOf "law" "law" (defArgs (top 36)) (defBody (top 36)) (defScope (top 36)) .none kV_Dlaw dc_Dlaw pm_Dlaw an_Dlaw cd_Dlaw ct_Dlaw,fun s v=>.of_eq rfl,fun base _ _=>?_⟩
  have F_law:=fun_mk (st:=(top 36)) l_Dlaw c_Dlaw_ k_Dlaw
  let a:Adr:=⟨c_SumError,c_NoNet,c_NoWorth,c_Kind,c_Counted,c_Net,t_MOST_PLACES,t_MOST_ROADS⟩
  have T:Tx K mg a:=⟨PySem.W.mg_none_of X G z_isinstance,
    PySem.W.mg_none_of X G z_len,
    PySem.W.mg_none_of X G z_int,
    PySem.W.mg_none_of X G z_bool,
    PySem.W.mg_none_of X G z_tuple,
    PySem.W.mg_none_of X G z_list,
    PySem.W.mg_none_of X G z_ValueError,
    PySem.W.mg_none_of X G z_range,
    PySem.W.mg_none_of X G z_min,
    PySem.W.mg_none_of X G z_max,
    PySem.W.mg_none_of X G z_enumerate,
    PySem.W.mg_of X G g_MOST_PLACES,
    PySem.W.mg_of X G g_MOST_ROADS,
    PySem.W.mg_of X G g_SumError,
    PySem.W.mg_of X G g_NoNet,
    PySem.W.mg_of X G g_NoWorth,
    PySem.W.mg_of X G g_Kind,
    PySem.W.mg_of X G g_Counted,
    PySem.W.mg_of X G g_Net,
    ⟨PySem.W.mg_of X G g_NoNet,xo_NoNet⟩,
    ⟨xa_NoNet,xb_NoNet,xc_NoNet,xd_NoNet,xe_NoNet,xf_NoNet⟩,
    ⟨PySem.W.mg_of X G g_NoWorth,xo_NoWorth⟩,
    ⟨xa_NoWorth,xb_NoWorth,xc_NoWorth,xd_NoWorth,xe_NoWorth,xf_NoWorth⟩,
    ⟨PySem.W.mg_of X G g_Counted,mk_Counted,in_Counted,kp_Counted⟩,
    mk_Net,
    kp_Net,
    na_Net_own_kind,
    na_Net_how_many,
    na_Net_own_roads,
    ⟨pg_Net,hd_Net,po_Net,sa_Net⟩,
    (fun kd hk=>by cases kd <;> first | exact ⟨pg_Counted,hd_Counted,po_Counted,sa_Counted⟩ | exact absurd hk (by simp [HasK]))⟩
  have D_law_cell_at:=d_cell (P:=l.prog) (w:=w) (base:=base) T (defAt_mk (st:=(top 22)) X G a_Dlaw_cell_at l_Dlaw_cell_at c_Dlaw_cell_at_ k_Dlaw_cell_at)
  have D_law_share:=d_share (P:=l.prog) (w:=w) (base:=base) hP T (defAt_mk (st:=(top 24)) X G a_Dlaw_share l_Dlaw_share c_Dlaw_share_ k_Dlaw_share)
  have D_law_none:=d_none (P:=l.prog) (w:=w) (base:=base) (defAt_mk (st:=(top 25)) X G a_Dlaw_none l_Dlaw_none c_Dlaw_none_ k_Dlaw_none)
  have D_law_rest:=d_rest (P:=l.prog) (w:=w) (base:=base) (defAt_mk (st:=(top 26)) X G a_Dlaw_rest l_Dlaw_rest c_Dlaw_rest_ k_Dlaw_rest)
  have D_law_worth:=d_worth (P:=l.prog) (w:=w) (base:=base) T D_law_none D_law_rest D_law_share (defAt_mk (st:=(top 29)) X G a_Dlaw_worth l_Dlaw_worth c_Dlaw_worth_ k_Dlaw_worth)
  have V_none:=v_none (P:=l.prog) (w:=w) (base:=base) T ⟨(mthAt_mk (st:=(inClass (top 8) 0)) a_MCounted_none i_MCounted_none l_MCounted_none c_MCounted_none_ k_MCounted_none)⟩
  have V_rest:=v_rest (P:=l.prog) (w:=w) (base:=base) T ⟨(mthAt_mk (st:=(inClass (top 8) 1)) a_MCounted_rest i_MCounted_rest l_MCounted_rest c_MCounted_rest_ k_MCounted_rest)⟩
  have V_together:=v_together (P:=l.prog) (w:=w) (base:=base) T ⟨(mthAt_mk (st:=(inClass (top 8) 3)) a_MCounted_together i_MCounted_together l_MCounted_together c_MCounted_together_ k_MCounted_together)⟩
  have V_behind:=v_behind (P:=l.prog) (w:=w) (base:=base) T ⟨(mthAt_mk (st:=(inClass (top 8) 4)) a_MCounted_behind i_MCounted_behind l_MCounted_behind c_MCounted_behind_ k_MCounted_behind)⟩
  have V_rounds:=v_rounds (P:=l.prog) (w:=w) (base:=base) T V_none V_rest V_together V_behind ⟨(mthAt_mk (st:=(inClass (top 8) 5)) a_MCounted_rounds i_MCounted_rounds l_MCounted_rounds c_MCounted_rounds_ k_MCounted_rounds)⟩
  have D_is_from:=d_is_from (P:=l.prog) (w:=w) (base:=base) T (defAt_mk (st:=(top 6)) X G a_Dis_from l_Dis_from c_Dis_from_ k_Dis_from)
  have V_is_worth:=v_is_worth (P:=l.prog) (w:=w) (base:=base) T D_is_from ⟨(mthAt_mk (st:=(inClass (top 8) 2)) a_MCounted_is_worth i_MCounted_is_worth l_MCounted_is_worth c_MCounted_is_worth_ k_MCounted_is_worth)⟩
  have D_check_numbers:=d_check_numbers (P:=l.prog) (w:=w) (base:=base) T (defAt_mk (st:=(top 12)) X G a_Dcheck_numbers l_Dcheck_numbers c_Dcheck_numbers_ k_Dcheck_numbers)
  have D_check_ends:=d_check_ends (P:=l.prog) (w:=w) (base:=base) T (defAt_mk (st:=(top 13)) X G a_Dcheck_ends l_Dcheck_ends c_Dcheck_ends_ k_Dcheck_ends)
  have V_may_start_together:=v_may (P:=l.prog) (w:=w) (base:=base) T V_none ⟨(mthAt_mk (st:=(inClass (top 7) 7)) a_MCounted_may_start_together i_MCounted_may_start_together l_MCounted_may_start_together c_MCounted_may_start_together_ k_MCounted_may_start_together)⟩
  have D_check_starts:=d_check_starts (P:=l.prog) (w:=w) (base:=base) T V_may_start_together (defAt_mk (st:=(top 14)) X G a_Dcheck_starts l_Dcheck_starts c_Dcheck_starts_ k_Dcheck_starts)
  have D_check_worths:=d_check_worths (P:=l.prog) (w:=w) (base:=base) T V_is_worth (defAt_mk (st:=(top 15)) X G a_Dcheck_worths l_Dcheck_worths c_Dcheck_worths_ k_Dcheck_worths)
  have M_Net:=make_Net (P:=l.prog) (w:=w) (base:=base) T D_check_numbers D_check_ends D_check_starts D_check_worths (mthAt_mk (st:=(inClass (top 16) 0)) a_MNet_init i_MNet_init l_MNet_init c_MNet_init_ k_MNet_init)
  have V_kind:=v_kind (P:=l.prog) (w:=w) (base:=base) T (mthAt_mk (st:=(inClass (top 16) 1)) a_MNet_kind i_MNet_kind l_MNet_kind c_MNet_kind_ k_MNet_kind)
  have V_places:=v_places (P:=l.prog) (w:=w) (base:=base) T (mthAt_mk (st:=(inClass (top 16) 2)) a_MNet_places i_MNet_places l_MNet_places c_MNet_places_ k_MNet_places)
  have V_roads:=v_roads (P:=l.prog) (w:=w) (base:=base) T (mthAt_mk (st:=(inClass (top 16) 3)) a_MNet_roads i_MNet_roads l_MNet_roads c_MNet_roads_ k_MNet_roads)
  have D_law_tog:=d_tog (P:=l.prog) (w:=w) (base:=base) T D_law_share (defAt_mk (st:=(top 27)) X G a_Dlaw_tog l_Dlaw_tog c_Dlaw_tog_ k_Dlaw_tog)
  have D_law_beh:=d_beh (P:=l.prog) (w:=w) (base:=base) T D_law_share (defAt_mk (st:=(top 28)) X G a_Dlaw_beh l_Dlaw_beh c_Dlaw_beh_ k_Dlaw_beh)
  have D_law_whole:=d_whole (P:=l.prog) (w:=w) (base:=base) T (defAt_mk (st:=(top 23)) X G a_Dlaw_whole l_Dlaw_whole c_Dlaw_whole_ k_Dlaw_whole)
  have D_law_is:=d_is (P:=l.prog) (w:=w) (base:=base) T D_law_whole (defAt_mk (st:=(top 30)) X G a_Dlaw_is l_Dlaw_is c_Dlaw_is_ k_Dlaw_is)
  have D_law_thinned:=d_thinned (P:=l.prog) (w:=w) (base:=base) T D_law_tog D_law_share (defAt_mk (st:=(top 31)) X G a_Dlaw_thinned l_Dlaw_thinned c_Dlaw_thinned_ k_Dlaw_thinned)
  have D_law_net:=d_net (P:=l.prog) (w:=w) (base:=base) T D_law_cell_at D_law_worth D_law_thinned (defAt_mk (st:=(top 32)) X G a_Dlaw_net l_Dlaw_net c_Dlaw_net_ k_Dlaw_net)
  have D_straight:=d_straight (P:=l.prog) (w:=w) (base:=base) T V_kind V_places V_roads V_none V_together (defAt_mk (st:=(top 18)) X G a_Dstraight l_Dstraight c_Dstraight_ k_Dstraight)
  have D_led_through:=d_led (P:=l.prog) (w:=w) (base:=base) T V_rounds V_together V_behind (defAt_mk (st:=(top 19)) X G a_Dled_through l_Dled_through c_Dled_through_ k_Dled_through)
  have D_table:=d_table (P:=l.prog) (w:=w) (base:=base) T V_kind V_places V_rest V_together D_straight D_led_through (defAt_mk (st:=(top 20)) X G a_Dtable l_Dtable c_Dtable_ k_Dtable)
  have D_law_steps:=d_law_steps (P:=l.prog) (w:=w) (base:=base) T D_law_none D_law_rest D_law_tog D_law_beh (defAt_mk (st:=(top 33)) X G a_Dlaw_steps l_Dlaw_steps c_Dlaw_steps_ k_Dlaw_steps)
  have D_law_comes:=d_law_comes (P:=l.prog) (w:=w) (base:=base) T (defAt_mk (st:=(top 34)) X G a_Dlaw_comes l_Dlaw_comes c_Dlaw_comes_ k_Dlaw_comes)
  have D_law_endless:=d_law_endless (P:=l.prog) (w:=w) (base:=base) T (defAt_mk (st:=(top 35)) X G a_Dlaw_endless l_Dlaw_endless c_Dlaw_endless_ k_Dlaw_endless)
  exact ok_law T D_law_cell_at D_law_net M_Net D_table D_law_comes D_law_endless D_law_steps D_law_tog D_law_is F_law
theorem walk {l:PySem.W.OpenLaw} {q:Program} {loose:List Str} {XP:(Str→Option Value)→Heap→Prop} {YP:World→Heap→Prop} {d:DefRec} {K:Params→PySem.W.Frag} (hn:l.most=some 63) (hdf:d.params.defaults=[]) (him:PyProof.Rows.importsNone q=true)
    (hY:∀ (w:World) (h:Heap),YP w h→(K w.params).In h)
    (F:∀ (w:World) (mg:Str→Option Value) (fa:Addr) (h:Heap),(K w.params).In h→h.Ns mainGlobals mg→mg d.name=some (.ref fa) →
      ∃ fd:FuncData,(∀ (s:Shared) (u:Value),BindsTo s fd ⟨[u],[]⟩ [("script",u)])∧∀ base:Heap,(K w.params).In base→base.Ns mainGlobals mg→FnOk l.prog w (K w.params) mg base (CXE l.prog w) 42 fa fd ["script"] (spLaw (K w.params))) :
    PySem.W.WalkO q loose XP YP l.row.toRowW d [] (fun f vs=>PySem.call f vs) :=
  L2.walk_of (n:=63) (k:=42) (x:="script") (CX:=fun w=>CXE l.prog w) (sp:=fun w=>spLaw (K w.params)) hn (by decide) hdf ⟨rfl,by decide,by decide,rfl⟩ hY F (fun _ _ a ns hl _ hS=>⟨a,ns,rfl,hS,hl,fun _=>rfl⟩)
    (fun _ _ _ _ _ ⟨_,_,_,_,_,_,_,_,_,z⟩=>z) him
end
end K10
namespace PySem.W.Fast
def tw5861149023760726283:=()
def tw6638064130684237728:=()
def tw13756769971872972815:=()
def tw9961764791034564468:=()
def tw2151419880915574355:=()
def tw4731991367314226955:=()
def tw5408116049242287169:=()
def tw5365640767815064807:=()
def tw1296161255046614013:=()
def tw3135382075153611011:=()
def tw2261838047704686758:=()
def tw15021736318991558711:=()
def tw16370493384355577704:=()
def tw6534207527503752867:=()
def tw4456652604155450228:=()
def tw14797548102242545982:=()
def tw18253835045000264843:=()
def tw9350341025610386830:=()
def tw12906362410043133496:=()
def tw13956652653692273099:=()
def tw5599711773088149785:=()
def tw11882663080083679825:=()
def tw13695853919688595816:=()
def tw14178300415552102122:=()
def tw5309725140130817574:=()
def tw15765170014643051031:=()
def tw726148355816974693:=()
def tw2425534622106761173:=()
def tw16066083979418994263:=()
def tw17188481345071295551:=()
def tw4525755066711734390:=()
def tw4182475752017436676:=()
def tw8698536429451991929:=()
def tw162800635927699038:=()
def tw13147042367697304296:=()
def tw12909211901920162514:=()
def tw8179738034609971869:=()
def tw5055678581903023499:=()
def tw9737353902851273704:=()
def tw13385400409865549007:=()
def tw14590464857556854634:=()
def tw10725310249173237656:=()
def tw6820078102372104093:=()
def tw12450164627340327203:=()
def tw12614495655020049874:=()
def tw1749696552911124834:=()
def tw12386432645275527287:=()
def tw715489002405195166:=()
def tw7581327400017126326:=()
def tw1980016241032891176:=()
def tw9040381009345146511:=()
def tw6626017196188583887:=()
def tw10506620302991884525:=()
def tw7366942315041930391:=()
def tw7860231185128414798:=()
def tw11888908852006530216:=()
def tw13169869801446720250:=()
def tw8782923590034966718:=()
def tw9920360998318386583:=()
def tw2889878101678757019:=()
def tw6799533056434278018:=()
def tw6787277940529361445:=()
def tw17849894056769880879:=()
def tw11357754849404488192:=()
def tw15453016841915041161:=()
def tw17065757495528305192:=()
def tw16161600150554587963:=()
def tw142460382531669620:=()
def tw8206750949045224415:=()
def tw2109790843866846870:=()
def tw15884078778662668628:=()
def tw914661685554705663:=()
def tw11329953321991610029:=()
def tw14841070202737688592:=()
def tw12614145633619687607:=()
def tw12523129071981478407:=()
def tw13404227280304836827:=()
def tw11179996486745330612:=()
def tw14725074817933234757:=()
def tw11442709591716700323:=()
def tw10921094123624572526:=()
def tw9650702324408723919:=()
def tw4188970856867818518:=()
def tw12127633389109734622:=()
def tw406744651747121368:=()
def tw11390566628948399230:=()
def tw9257825802135594291:=()
def tw17596280585757756904:=()
def tw18167822064055486734:=()
def tw7364176040027765273:=()
def tw6006002262207563597:=()
def tw17642343904515149270:=()
def tw6520951709172481668:=()
def tw3126636422913603259:=()
def tw14192799869714996709:=()
def tw15548870252612112974:=()
def tw9065710794102667099:=()
def tw15228503739044822614:=()
def tw6574350337738305741:=()
def tw6954503973634962441:=()
def tw12349203492532465945:=()
def tw11324077338337916718:=()
def tw1915663328162604540:=()
def tw14483352131800673123:=()
def tw12640588036895624540:=()
def tw9607730764618674228:=()
def tw4238679242736353499:=()
def tw8367068486943439619:=()
def tw6835400757481327155:=()
def tw12484002944815429311:=()
def tw8856003306237003731:=()
def tw10433197056010614102:=()
def tw16895696249056638918:=()
def tw201486931169531347:=()
def tw13281377562934074766:=()
def tw9974828491389002105:=()
def tw1521001702287693581:=()
def tw6449012812619605022:=()
def tw13460144322826897786:=()
def tw12548270333625069501:=()
def tw9332770938992372958:=()
def tw1420402636735731587:=()
def tw1657649518912775887:=()
def tw2582706270134846360:=()
def tw14703969327637708029:=()
def tw3871574793841775162:=()
def tw16535332774682072369:=()
def tw11645861906504700038:=()
def tw7666630447089642896:=()
def tw9858871155013979946:=()
def tw15345918194406555348:=()
def tw16786890085415205001:=()
def tw7524559516152781944:=()
def tw13158147181698786277:=()
def tw12925152129975151616:=()
def tw8325992863168635836:=()
def tw8905331232141813256:=()
def tw1624376829330881554:=()
def tw10806015196594138843:=()
def tw3691842842636235552:=()
def tw3041212487953235138:=()
def tw7705533875767954798:=()
def tw14779858265658259529:=()
def tw13432775345110369573:=()
def tw15805823662014243625:=()
def tw14575818299318372466:=()
def tw16189443569314510242:=()
def tw2010595670179991903:=()
def tw7995375409490496161:=()
def tw1721670845787190626:=()
def tw7617990705014980271:=()
def tw9416518530322079512:=()
def tw15011397786218673228:=()
def tw15733325336769725901:=()
def tw5062873622110537037:=()
def tw1609609426000137360:=()
def tw7576031365191160491:=()
def tw6671903317818037532:=()
def tw14447137817167068824:=()
def tw694987775166726803:=()
def tw1754685947886173184:=()
def tw5481501767190634307:=()
def tw16032200673213929602:=()
def tw10858546111301293438:=()
def tw66586748041107842:=()
def tw15650795042501793068:=()
def tw10119757932995651492:=()
def tw3547927542342908525:=()
def tw7613005849553573285:=()
def tw17643546949925114285:=()
def tw12379190087820405424:=()
def tw15239361604489453031:=()
def tw6201644564020049582:=()
def tw2056584833051078571:=()
def tw5655048881950656938:=()
def tw16063492230067146052:=()
def tw12162904437641878488:=()
def tw3513281920682619241:=()
def tw9272189167887416225:=()
def tw3651933454351362896:=()
def tw16459324508667066758:=()
def tw18212862542420060024:=()
def tw4242663778370643092:=()
def tw1876055970179800241:=()
def tw7111418102427952174:=()
def tw16844940973152443025:=()
def tw15414540318686852887:=()
def tw11618319764161421057:=()
def tw10818123913905678690:=()
def tw422244595552733628:=()
def tw1245856611560486036:=()
def tw11146843822891846395:=()
def tw7342848536261432539:=()
def tw7204314684862090349:=()
def tw3394371087801486055:=()
def tw6436384305233761212:=()
def tw11030892529293196741:=()
def tw18409693830879913052:=()
def tw17702354217783682565:=()
def tw9661714350346482061:=()
def tw18079901250173509074:=()
def tw4333153080686192118:=()
def tw15034892064215883606:=()
def tw8161329865658802057:=()
def tw16748036769013412319:=()
def tw12239269443215280660:=()
def tw14865526801024446244:=()
def tw9625366772500600791:=()
def tw439789341426313471:=()
def tw15170909902913726831:=()
def tw11105894852664998473:=()
def tw5008277393653985398:=()
def tw4806524283541298929:=()
def tw17724636171118782773:=()
def tw13957316729630184927:=()
def tw12060187064391733653:=()
def tw12247545810349735245:=()
def tw15908568771515062531:=()
def tw15534056904255966230:=()
def tw11005794279750845704:=()
def tw6270201023079623362:=()
def tw16159272939341898102:=()
def tw2117414280148022425:=()
def tw4319935931118280397:=()
def tw11846440004195685526:=()
def tw13722702016397941877:=()
def tw857609778055487489:=()
def tw14930224414796746705:=()
def tw4160517237778504928:=()
def tw8815580008464028150:=()
def tw6934684964957394213:=()
def tw1943083463928663604:=()
def tw10825213238432776465:=()
def tw15556782835117617535:=()
def tw12597351032409965015:=()
def tw11647288192719961643:=()
def tw7105504648933644321:=()
def tw10854659656872609903:=()
def tw9625625891287224596:=()
def tw7357227702396308527:=()
def tw3862919922427916420:=()
def tw13185267059354560790:=()
def tw507732067080046892:=()
def tw18148395576376823688:=()
def tw15518015266849956751:=()
def tw9654762736227393083:=()
def tw9971831057837904866:=()
def tw3687920286630300584:=()
def tw14161546203024940967:=()
def tw6657909492914368136:=()
def tw7389178944840683684:=()
def tw13687580017951027746:=()
def tw825340706423068343:=()
def tw11642241961358935915:=()
def tw639000491934482013:=()
def tw6267489431247550186:=()
def tw8666498505933081216:=()
def tw11743448764159216655:=()
def tw15812572162003750230:=()
def tw10586846774801060812:=()
def tw13130271722264617504:=()
def tw2617316919817917513:=()
def tw11117135648998048033:=()
def tw16977375564186566791:=()
def tw15552453728898881521:=()
def tw16243985876485838556:=()
def tw8534741489485372187:=()
def tw9978430881562422882:=()
def tw4296882284745821189:=()
def tw16523374037583581949:=()
def tw2234257888578530707:=()
def tw5705967645987638239:=()
def tw4854259451511611150:=()
def tw6209078931860005494:=()
def tw18124740352433542518:=()
def tw14950126059249349436:=()
def tw12160436677545504576:=()
def tw3659277823130545280:=()
def tw1952697359086467414:=()
def tw13289192508511510314:=()
def tw9468024057094509104:=()
def tw18305024623824300235:=()
def tw14076976838161449261:=()
def tw15299607453282913986:=()
def tw16577892155477614687:=()
def tw16741991008979845847:=()
def tw8221303449507067191:=()
def tw3585258352133506024:=()
def tw13641656522765813383:=()
def tw12177917875118625064:=()
def tw5749590679832204396:=()
def tw5251674432026917959:=()
def tw6917258399821302153:=()
def tw12086332474905135646:=()
def tw183687327600394517:=()
def tw7087304571423242747:=()
def tw12943375369296990562:=()
def tw14399567991592955044:=()
def tw7818110446566869015:=()
def tw5928576792289399693:=()
def tw7954806465146516322:=()
def tw7939779757443740676:=()
def tw2022367974244629194:=()
def tw7187013963583440203:=()
def tw413192594178807691:=()
def tw2746162347191286054:=()
def tw15338839390828343903:=()
def tw7213228463244386740:=()
def tw2535854070253613693:=()
def tw9053866202489665960:=()
def tw3044703910303606031:=()
def tw7469001747803765415:=()
def tw16440535597011724258:=()
def tw4482619867985538452:=()
def tw6465139712174547239:=()
def tw16559881794721862119:=()
def tw3498290518838774376:=()
def tw1961882003211001861:=()
def tw3725858218330499100:=()
def tw7617256890066821284:=()
def tw8206195416013037518:=()
def tw14448860114902772166:=()
def tw15746409075666668623:=()
def tw7303104236051014294:=()
def tw8135667318080794069:=()
def tw5115482090543742055:=()
def tw12571378404789823058:=()
def tw3980165609707130176:=()
def tw9806234572054530583:=()
def tw1183803755286809539:=()
def tw9575144109786615541:=()
def tw7557500437611633144:=()
def tw13930057418181591014:=()
def tw4153309486708768493:=()
def tw7850253149365122782:=()
def tw12761957719539073312:=()
def tw4503669978700596767:=()
def tw12577719829987874015:=()
def tw16202151136453307310:=()
def tw122051190952395063:=()
def tw15386749718174005393:=()
def tw10890090558698735298:=()
def tw16733062553382217140:=()
def tw11601715847816490161:=()
def tw14838375726854616383:=()
def tw17462292461536023882:=()
def tw13172745253404515724:=()
def tw13954666712817412416:=()
def tw15482369700807910691:=()
def tw9466214227785742067:=()
def tw16674367544254013126:=()
def tw5912755499337299506:=()
def tw16763938996342984522:=()
def tw5150704854645064440:=()
def tw2122838208069122829:=()
def tw15832152352797909096:=()
def tw3816281737354145075:=()
def tw13266081560305131418:=()
def tw6774004414407722737:=()
def tw5688527810196845847:=()
def tw6128861548523050978:=()
def tw7493062000185267568:=()
def tw2376805804544699816:=()
def tw1247158899523638138:=()
def tw4709110013726764487:=()
def tw11635282636234520651:=()
def tw1741915439408800937:=()
def tw10624983230694696025:=()
def tw13780419885603804404:=()
def tw15371497659982070782:=()
def tw3710802307125326594:=()
def tw4320271065736977464:=()
def tw15350593698596037890:=()
def tw12268499201936692459:=()
def tw673784576835907774:=()
def tw17657308427026642998:=()
def tw8576100922306983953:=()
def tw6622491018698810893:=()
def tw10480208970546378652:=()
def tw16948280267226545945:=()
def tw4265769764729293950:=()
def tw2575332583186914784:=()
def tw12669416635298595894:=()
def tw15741644414161046270:=()
def tw15301453993000794347:=()
def tw11300317381484370479:=()
def tw6608392099666617891:=()
def tw7563732470902889462:=()
def tw566912262759373694:=()
def tw13122846566149415278:=()
def tw1660455550385375718:=()
def tw6766232861275901449:=()
def tw17504278094671564277:=()
def tw6430414671419712566:=()
def tw1259386661747134714:=()
def tw2634300497855726723:=()
def tw2298991656387109408:=()
end PySem.W.Fast
open PySem PySem.W PyProof.Rows
set_option maxRecDepth 100000 in
set_option maxHeartbeats 0 in
theorem PySem.Challenge.cw_waysum_k10_whole_how_many_ways_holds : PySem.Challenge.rw_waysum_k10_whole_how_many_ways.Holds := by
  w_on; o_law; k_head; (case hw => w_witness2)
  k_fill
  refine K10.walk (l := PySem.Challenge.rw_waysum_k10_whole_how_many_ways) rfl rfl ?him (fun w h Y => PySem.W.kIn_of Y) ?F
  case him => first | rfl | decide +kernel
  case F =>
    intro w mg fa h KX G hmg
    refine' K10.all_mk rfl KX G hmg ?g_SumError ?g_NoNet ?g_NoWorth ?g_Kind ?g_Counted ?g_Net ?g_MOST_PLACES ?g_MOST_ROADS ?z_isinstance ?z_len ?z_int ?z_bool ?z_tuple ?z_list ?z_ValueError ?z_range ?z_min ?z_max ?z_enumerate ?xo_NoNet ?xa_NoNet ?xb_NoNet ?xc_NoNet ?xd_NoNet ?xe_NoNet ?xf_NoNet ?xo_NoWorth ?xa_NoWorth ?xb_NoWorth ?xc_NoWorth ?xd_NoWorth ?xe_NoWorth ?xf_NoWorth ?mk_Counted ?in_Counted ?kp_Counted ?mk_Net ?kp_Net ?na_Net_own_kind ?na_Net_how_many ?na_Net_own_roads ?pg_Net ?hd_Net ?po_Net ?sa_Net ?pg_Counted ?hd_Counted ?po_Counted ?sa_Counted ?a_Dlaw_cell_at ?l_Dlaw_cell_at ?c_Dlaw_cell_at_ ?k_Dlaw_cell_at ?a_Dlaw_share ?l_Dlaw_share ?c_Dlaw_share_ ?k_Dlaw_share ?a_Dlaw_none ?l_Dlaw_none ?c_Dlaw_none_ ?k_Dlaw_none ?a_Dlaw_rest ?l_Dlaw_rest ?c_Dlaw_rest_ ?k_Dlaw_rest ?a_Dlaw_worth ?l_Dlaw_worth ?c_Dlaw_worth_ ?k_Dlaw_worth ?a_MCounted_none ?i_MCounted_none ?l_MCounted_none ?c_MCounted_none_ ?k_MCounted_none ?a_MCounted_rest ?i_MCounted_rest ?l_MCounted_rest ?c_MCounted_rest_ ?k_MCounted_rest ?a_MCounted_together ?i_MCounted_together ?l_MCounted_together ?c_MCounted_together_ ?k_MCounted_together ?a_MCounted_behind ?i_MCounted_behind ?l_MCounted_behind ?c_MCounted_behind_ ?k_MCounted_behind ?a_MCounted_rounds ?i_MCounted_rounds ?l_MCounted_rounds ?c_MCounted_rounds_ ?k_MCounted_rounds ?a_Dis_from ?l_Dis_from ?c_Dis_from_ ?k_Dis_from ?a_MCounted_is_worth ?i_MCounted_is_worth ?l_MCounted_is_worth ?c_MCounted_is_worth_ ?k_MCounted_is_worth ?a_Dcheck_numbers ?l_Dcheck_numbers ?c_Dcheck_numbers_ ?k_Dcheck_numbers ?a_Dcheck_ends ?l_Dcheck_ends ?c_Dcheck_ends_ ?k_Dcheck_ends ?a_MCounted_may_start_together ?i_MCounted_may_start_together ?l_MCounted_may_start_together ?c_MCounted_may_start_together_ ?k_MCounted_may_start_together ?a_Dcheck_starts ?l_Dcheck_starts ?c_Dcheck_starts_ ?k_Dcheck_starts ?a_Dcheck_worths ?l_Dcheck_worths ?c_Dcheck_worths_ ?k_Dcheck_worths ?a_MNet_init ?i_MNet_init ?l_MNet_init ?c_MNet_init_ ?k_MNet_init ?a_MNet_kind ?i_MNet_kind ?l_MNet_kind ?c_MNet_kind_ ?k_MNet_kind ?a_MNet_places ?i_MNet_places ?l_MNet_places ?c_MNet_places_ ?k_MNet_places ?a_MNet_roads ?i_MNet_roads ?l_MNet_roads ?c_MNet_roads_ ?k_MNet_roads ?a_Dlaw_tog ?l_Dlaw_tog ?c_Dlaw_tog_ ?k_Dlaw_tog ?a_Dlaw_beh ?l_Dlaw_beh ?c_Dlaw_beh_ ?k_Dlaw_beh ?a_Dlaw_whole ?l_Dlaw_whole ?c_Dlaw_whole_ ?k_Dlaw_whole ?a_Dlaw_is ?l_Dlaw_is ?c_Dlaw_is_ ?k_Dlaw_is ?a_Dlaw_thinned ?l_Dlaw_thinned ?c_Dlaw_thinned_ ?k_Dlaw_thinned ?a_Dlaw_net ?l_Dlaw_net ?c_Dlaw_net_ ?k_Dlaw_net ?a_Dstraight ?l_Dstraight ?c_Dstraight_ ?k_Dstraight ?a_Dled_through ?l_Dled_through ?c_Dled_through_ ?k_Dled_through ?a_Dtable ?l_Dtable ?c_Dtable_ ?k_Dtable ?a_Dlaw_steps ?l_Dlaw_steps ?c_Dlaw_steps_ ?k_Dlaw_steps ?a_Dlaw_comes ?l_Dlaw_comes ?c_Dlaw_comes_ ?k_Dlaw_comes ?a_Dlaw_endless ?l_Dlaw_endless ?c_Dlaw_endless_ ?k_Dlaw_endless ?a_Dlaw ?l_Dlaw ?c_Dlaw_ ?k_Dlaw
    (case g_SumError => k_is)
    (case g_NoNet => k_is)
    (case g_NoWorth => k_is)
    (case g_Kind => k_is)
    (case g_Counted => k_is)
    (case g_Net => k_is)
    (case g_MOST_PLACES => k_is)
    (case g_MOST_ROADS => k_is)
    (case z_isinstance => k_is)
    (case z_len => k_is)
    (case z_int => k_is)
    (case z_bool => k_is)
    (case z_tuple => k_is)
    (case z_list => k_is)
    (case z_ValueError => k_is)
    (case z_range => k_is)
    (case z_min => k_is)
    (case z_max => k_is)
    (case z_enumerate => k_is)
    (case xo_NoNet => k_exc)
    (case xa_NoNet => kernel_rfl)
    (case xb_NoNet => k_is)
    (case xc_NoNet => k_is)
    (case xd_NoNet => k_is)
    (case xe_NoNet => k_is)
    (case xf_NoNet => k_is)
    (case xo_NoWorth => k_exc)
    (case xa_NoWorth => kernel_rfl)
    (case xb_NoWorth => k_is)
    (case xc_NoWorth => k_is)
    (case xd_NoWorth => k_is)
    (case xe_NoWorth => k_is)
    (case xf_NoWorth => k_is)
    (case mk_Counted => k_is)
    (case in_Counted => k_is)
    (case kp_Counted => k_is)
    (case mk_Net => k_is)
    (case kp_Net => k_is)
    (case na_Net_own_kind => k_is)
    (case na_Net_how_many => k_is)
    (case na_Net_own_roads => k_is)
    (case pg_Net => k_is)
    (case hd_Net => k_is)
    (case po_Net => k_is)
    (case sa_Net => k_is)
    (case pg_Counted => k_is)
    (case hd_Counted => k_is)
    (case po_Counted => k_is)
    (case sa_Counted => k_is)
    (case a_Dlaw_cell_at => k_is)
    (case l_Dlaw_cell_at => k_is)
    (case c_Dlaw_cell_at_ => k_is)
    (case k_Dlaw_cell_at => k_is)
    (case a_Dlaw_share => k_is)
    (case l_Dlaw_share => k_is)
    (case c_Dlaw_share_ => k_is)
    (case k_Dlaw_share => k_is)
    (case a_Dlaw_none => k_is)
    (case l_Dlaw_none => k_is)
    (case c_Dlaw_none_ => k_is)
    (case k_Dlaw_none => k_is)
    (case a_Dlaw_rest => k_is)
    (case l_Dlaw_rest => k_is)
    (case c_Dlaw_rest_ => k_is)
    (case k_Dlaw_rest => k_is)
    (case a_Dlaw_worth => k_is)
    (case l_Dlaw_worth => k_is)
    (case c_Dlaw_worth_ => k_is)
    (case k_Dlaw_worth => k_is)
    (case a_MCounted_none => k_is)
    (case i_MCounted_none => k_is)
    (case l_MCounted_none => k_is)
    (case c_MCounted_none_ => k_is)
    (case k_MCounted_none => k_is)
    (case a_MCounted_rest => k_is)
    (case i_MCounted_rest => k_is)
    (case l_MCounted_rest => k_is)
    (case c_MCounted_rest_ => k_is)
    (case k_MCounted_rest => k_is)
    (case a_MCounted_together => k_is)
    (case i_MCounted_together => k_is)
    (case l_MCounted_together => k_is)
    (case c_MCounted_together_ => k_is)
    (case k_MCounted_together => k_is)
    (case a_MCounted_behind => k_is)
    (case i_MCounted_behind => k_is)
    (case l_MCounted_behind => k_is)
    (case c_MCounted_behind_ => k_is)
    (case k_MCounted_behind => k_is)
    (case a_MCounted_rounds => k_is)
    (case i_MCounted_rounds => k_is)
    (case l_MCounted_rounds => k_is)
    (case c_MCounted_rounds_ => k_is)
    (case k_MCounted_rounds => k_is)
    (case a_Dis_from => k_is)
    (case l_Dis_from => k_is)
    (case c_Dis_from_ => k_is)
    (case k_Dis_from => k_is)
    (case a_MCounted_is_worth => k_is)
    (case i_MCounted_is_worth => k_is)
    (case l_MCounted_is_worth => k_is)
    (case c_MCounted_is_worth_ => k_is)
    (case k_MCounted_is_worth => k_is)
    (case a_Dcheck_numbers => k_is)
    (case l_Dcheck_numbers => k_is)
    (case c_Dcheck_numbers_ => k_is)
    (case k_Dcheck_numbers => k_is)
    (case a_Dcheck_ends => k_is)
    (case l_Dcheck_ends => k_is)
    (case c_Dcheck_ends_ => k_is)
    (case k_Dcheck_ends => k_is)
    (case a_MCounted_may_start_together => k_is)
    (case i_MCounted_may_start_together => k_is)
    (case l_MCounted_may_start_together => k_is)
    (case c_MCounted_may_start_together_ => k_is)
    (case k_MCounted_may_start_together => k_is)
    (case a_Dcheck_starts => k_is)
    (case l_Dcheck_starts => k_is)
    (case c_Dcheck_starts_ => k_is)
    (case k_Dcheck_starts => k_is)
    (case a_Dcheck_worths => k_is)
    (case l_Dcheck_worths => k_is)
    (case c_Dcheck_worths_ => k_is)
    (case k_Dcheck_worths => k_is)
    (case a_MNet_init => k_is)
    (case i_MNet_init => k_is)
    (case l_MNet_init => k_is)
    (case c_MNet_init_ => k_is)
    (case k_MNet_init => k_is)
    (case a_MNet_kind => k_is)
    (case i_MNet_kind => k_is)
    (case l_MNet_kind => k_is)
    (case c_MNet_kind_ => k_is)
    (case k_MNet_kind => k_is)
    (case a_MNet_places => k_is)
    (case i_MNet_places => k_is)
    (case l_MNet_places => k_is)
    (case c_MNet_places_ => k_is)
    (case k_MNet_places => k_is)
    (case a_MNet_roads => k_is)
    (case i_MNet_roads => k_is)
    (case l_MNet_roads => k_is)
    (case c_MNet_roads_ => k_is)
    (case k_MNet_roads => k_is)
    (case a_Dlaw_tog => k_is)
    (case l_Dlaw_tog => k_is)
    (case c_Dlaw_tog_ => k_is)
    (case k_Dlaw_tog => k_is)
    (case a_Dlaw_beh => k_is)
    (case l_Dlaw_beh => k_is)
    (case c_Dlaw_beh_ => k_is)
    (case k_Dlaw_beh => k_is)
    (case a_Dlaw_whole => k_is)
    (case l_Dlaw_whole => k_is)
    (case c_Dlaw_whole_ => k_is)
    (case k_Dlaw_whole => k_is)
    (case a_Dlaw_is => k_is)
    (case l_Dlaw_is => k_is)
    (case c_Dlaw_is_ => k_is)
    (case k_Dlaw_is => k_is)
    (case a_Dlaw_thinned => k_is)
    (case l_Dlaw_thinned => k_is)
    (case c_Dlaw_thinned_ => k_is)
    (case k_Dlaw_thinned => k_is)
    (case a_Dlaw_net => k_is)
    (case l_Dlaw_net => k_is)
    (case c_Dlaw_net_ => k_is)
    (case k_Dlaw_net => k_is)
    (case a_Dstraight => k_is)
    (case l_Dstraight => k_is)
    (case c_Dstraight_ => k_is)
    (case k_Dstraight => k_is)
    (case a_Dled_through => k_is)
    (case l_Dled_through => k_is)
    (case c_Dled_through_ => k_is)
    (case k_Dled_through => k_is)
    (case a_Dtable => k_is)
    (case l_Dtable => k_is)
    (case c_Dtable_ => k_is)
    (case k_Dtable => k_is)
    (case a_Dlaw_steps => k_is)
    (case l_Dlaw_steps => k_is)
    (case c_Dlaw_steps_ => k_is)
    (case k_Dlaw_steps => k_is)
    (case a_Dlaw_comes => k_is)
    (case l_Dlaw_comes => k_is)
    (case c_Dlaw_comes_ => k_is)
    (case k_Dlaw_comes => k_is)
    (case a_Dlaw_endless => k_is)
    (case l_Dlaw_endless => k_is)
    (case c_Dlaw_endless_ => k_is)
    (case k_Dlaw_endless => k_is)
    (case a_Dlaw => k_is)
    (case l_Dlaw => k_is)
    (case c_Dlaw_ => k_is)
    (case k_Dlaw => k_is)
#print axioms PySem.Challenge.cw_waysum_k10_whole_how_many_ways_holds
