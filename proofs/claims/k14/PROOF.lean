import PyProof.Rows.All
import Wide.All
import OpenK.AllK
import Wide.FinOn
import Lean
import PyProof.EqAt
import PyProof.EqKinds
import PyProof.TupleCall
import PySem.Challenge.RW_waysum_k14_picked_ways
set_option linter.all false
set_option Elab.async false
set_option maxHeartbeats 4000000
set_option maxRecDepth 100000
set_option Elab.async false
set_option linter.all false
set_option maxRecDepth 100000
namespace L2
open PySem PySem.Spec PyProof.Rows
abbrev Key:=Sum Int Str
def keyIs:Key→Value→Bool
  | .inl k,v=>Value.isInt k v
  | .inr x,v=>Value.isStrOf x v
def keyH (w:World):Key→Int
  | .inl k=>hashInt k
  | .inr x=>hashStr w x
theorem keyIs_shape:∀ {k:Key} {v:Value},keyIs k v=true→(∃ i t,k=Sum.inl i∧v=Value.int i t)∨(∃ x t,k=Sum.inr x∧v=Value.str x t)
  | .inl i,v,h=>by
    obtain ⟨t,e⟩:=Value.isInt_shape (k:=i) (v:=v) h
    exact .inl ⟨i,t,rfl,e⟩
  | .inr x,v,h=>by
    obtain ⟨t,e⟩:=Value.isStrOf_shape (x:=x) (v:=v) h
    exact .inr ⟨x,t,rfl,e⟩
theorem keyIs_int (i:Int) (t:Tok):keyIs (.inl i) (.int i t)=true:=by simp [keyIs,Value.isInt]
theorem keyIs_str (x:Str) (t:Tok):keyIs (.inr x) (.str x t)=true:=by simp [keyIs,Value.isStrOf]
theorem key_ll (a b:Int):decide ((Sum.inl a:Key)=Sum.inl b)=(a == b):=by
  by_cases e:a=b
  · subst e; simp
  · have h:¬ (Sum.inl a:Key)=Sum.inl b:=fun q=>e (Sum.inl.inj q)
    rw [decide_eq_false h]
    exact (beq_eq_false_iff_ne.mpr e).symm
theorem key_rr (a b:Str):decide ((Sum.inr a:Key)=Sum.inr b)=decide (a=b):=by
  by_cases e:a=b
  · subst e; simp
  · have h:¬ (Sum.inr a:Key)=Sum.inr b:=fun q=>e (Sum.inr.inj q)
    rw [decide_eq_false h,decide_eq_false e]
theorem key_lr (a:Int) (b:Str):decide ((Sum.inl a:Key)=Sum.inr b)=false:=decide_eq_false (fun q=>nomatch q)
theorem key_rl (a:Str) (b:Int):decide ((Sum.inr a:Key)=Sum.inl b)=false:=decide_eq_false (fun q=>nomatch q)
def mixKind (prog:Program) (w:World):PySem.KeyKind prog w Key where
  is:=keyIs
  hash:=keyH w
  inj:=fun v a b ha hb=>by
    rcases keyIs_shape ha with ⟨i,t,rfl,rfl⟩ | ⟨x,t,rfl,rfl⟩
    · rcases keyIs_shape hb with ⟨j,u,rfl,e⟩ | ⟨y,u,rfl,e⟩
      · injection e with e1 _; rw [e1]
      · exact nomatch e
    · rcases keyIs_shape hb with ⟨j,u,rfl,e⟩ | ⟨y,u,rfl,e⟩
      · exact nomatch e
      · injection e with e1 _; rw [e1]
  byValue:=fun k v h=>by
    rcases keyIs_shape h with ⟨i,t,rfl,rfl⟩ | ⟨x,t,rfl,rfl⟩ <;> rfl
  pyHash:=fun hv h=>by
    rcases keyIs_shape hv with ⟨i,t,rfl,rfl⟩ | ⟨x,t,rfl,rfl⟩
    · exact wpAny_pyHash_int h
    · exact wpAny_pyHash_str h
  eqBool:=fun hu hv h=>by
    rcases keyIs_shape hu with ⟨i,t,rfl,rfl⟩ | ⟨x,t,rfl,rfl⟩
    · rcases keyIs_shape hv with ⟨j,u,rfl,rfl⟩ | ⟨y,u,rfl,rfl⟩
      · rw [key_ll] at h; exact wpAny_eqBool_int h
      · rw [key_lr] at h; exact SeqAt.EqAt.int_str i t y u _ _ _ _ h
    · rcases keyIs_shape hv with ⟨j,u,rfl,rfl⟩ | ⟨y,u,rfl,rfl⟩
      · rw [key_rl] at h; exact SeqAt.EqAt.str_int x t j u _ _ _ _ h
      · rw [key_rr] at h; exact wpAny_eqBool_str h
  «strs»:=fun k x t v h=>by
    rcases keyIs_shape h with ⟨i,u,rfl,e⟩ | ⟨y,u,rfl,e⟩
    · exact nomatch e
    · injection e with e1 _
      subst e1
      cases v <;> rfl
theorem mixKind_int (prog:Program) (w:World) (i:Int) (t:Tok):(mixKind prog w).is (.inl i) (.int i t)=true:=keyIs_int i t
theorem mixKind_str (prog:Program) (w:World) (x:Str) (t:Tok):(mixKind prog w).is (.inr x) (.str x t)=true:=keyIs_str x t
end L2
namespace L2
open PySem PySem.Spec PyProof.Rows
inductive V where
  | non | bl (b:Bool) | int (i:Int) | str (x:Str) | byt (b:Array UInt8) | flt (b:UInt64) | ref (a:Addr) | ty (n:String)
  deriving DecidableEq
def RelV:V→Value→Prop
  | .non,u=>u=Value.none
  | .bl b,u=>u=Value.bool b
  | .int i,u=>∃ t,u=Value.int i t
  | .str x,u=>∃ t,u=Value.str x t
  | .byt b,u=>∃ t,u=Value.bytes b t
  | .flt b,u=>∃ t,u=Value.float b t
  | .ref a,u=>u=Value.ref a
  | .ty n,u=>u=Value.type n
abbrev Vals:List V→List Value→Prop:=Paired RelV
theorem Vals.length {xs:List V} {us:List Value} (r:Vals xs us):xs.length=us.length:=Paired.length r
theorem Vals.get:∀ {xs:List V} {us:List Value} {i:Nat} {x:V},Vals xs us→xs[i]?=some x→∃ u,us[i]?=some u∧RelV x u
  | _,_,_,_,.nil,e=>by simp at e
  | _,_,0,_,.cons r _,e=>by simp at e; subst e; exact ⟨_,rfl,r⟩
  | _,_,i + 1,x,.cons _ t,e=>by
    obtain ⟨u,h1,h2⟩:=Vals.get (i:=i) (x:=x) t (by simpa using e)
    exact ⟨u,by simpa using h1,h2⟩
theorem Vals.set {x:V} {u:Value} (r:RelV x u):∀ {xs:List V} {us:List Value} (i:Nat),Vals xs us→Vals (xs.set i x) (us.set i u)
  | _,_,_,.nil=>.nil
  | _,_,0,.cons _ t=>.cons r t
  | _,_,i + 1,.cons q t=>.cons q (Vals.set r i t)
theorem Vals.append:∀ {xs ys:List V} {us ws:List Value},Vals xs us→Vals ys ws→Vals (xs ++ ys) (us ++ ws)
  | _,_,_,_,.nil,s=>s
  | _,_,_,_,.cons r t,s=>.cons r (Vals.append t s)
theorem Vals.take:∀ {xs:List V} {us:List Value} (n:Nat),Vals xs us→Vals (xs.take n) (us.take n)
  | _,_,0,_=>.nil
  | _,_,_ + 1,.nil=>.nil
  | _,_,n + 1,.cons r t=>.cons r (Vals.take n t)
def RelO:Option V→Option Value→Prop
  | some v,some u=>RelV v u
  | none,none=>True
  | _,_=>False
def KV {κ:Type}:List (κ × V)→List (κ × Value)→Prop:=Paired fun (p:κ × V) (q:κ × Value)=>p.1=q.1∧RelV p.2 q.2
def kV:Key→V
  | .inl i=>.int i
  | .inr x=>.str x
inductive HO where
  | lst (xs:List V)
  | tup (xs:List V)
  | dK (kvs:List (Key × V)) | dT (kvs:List (List Key × V))
  | set (S:Int→Bool) (n:Nat)
  | ins (C dx:Addr) (fs:List (Str × V))
  | own (x:Addr)
  | xd (fs:List (Str × V))
  | met (f x:Addr)
  | rng (lo hi:Int)
  | frz (o:Obj) (u:HO)
  | tbl (ps:Array Value)
  | ext (φ:Heap→Prop)
abbrev Hp:=Addr→Option HO
def upd (H:Hp) (a:Addr) (o:HO):Hp:=fun b=>if b=a then some o else H b
theorem upd_same {H:Hp} {a:Addr} {o:HO}:upd H a o a=some o:=by unfold upd; rw [if_pos rfl]
theorem upd_ne {H:Hp} {a b:Addr} {o:HO} (h:b≠a):upd H a o b=H b:=by unfold upd; rw [if_neg h]
theorem ne_of {H:Hp} {a b:Addr} {o u:HO} (h:H a=some o) (h':H b=some u) (d:o≠u):a≠b:=by
  intro e; subst e; rw [h] at h'; exact d (Option.some.inj h')
theorem ne_of_none {H:Hp} {a b:Addr} {o:HO} (h:H a=some o) (h':H b=none):a≠b:=by
  intro e; subst e; rw [h] at h'; cases h'
section
variable (P : Program) (w : World)
def ObjOk (H:Hp) (h:Heap) (a:Addr):HO→Prop
  | .lst xs=>xs.length≤sizeLine∧∃ (its:List Value) (n:Nat),Vals xs its∧h.get? a=some { cls:=.type "list",data:=.seq its.toArray n }
  | .tup xs=>xs.length≤sizeLine∧∃ its:List Value,Vals xs its∧IsTup h a its.toArray
  | .dK kvs=>kvs.length≤sizeLine∧(a == sysModules)=false∧∃ vs,KV kvs vs∧h.DictOf (mixKind P w) a vs
  | .dT kvs=>kvs.length≤sizeLine∧(a == sysModules)=false∧∃ xs:List (List Key × Addr × Value),
      Paired (fun (p:List Key × V) (q:List Key × Addr × Value)=>p.1=q.1∧H q.2.1=some (.tup (p.1.map kV))∧RelV p.2 q.2.2) kvs xs ∧
      ∃ o es ep,h.get? a=some o∧o.ExactDict∧o.data=.dict es ep∧es.toList=xs.map (entryOfKey (tupleKind (mixKind P w)))∧(xs.map (·.1)).Nodup
  | .set S n=>h.SetOf (intKind P w) a S n
  | .ins C dx fs=>H dx=some (.own a)∧fs.length≤1000∧dx≠a∧h.get? a=some (PySem.W.instObj C dx) ∧
      ∃ mA,h.Ns1 dx mA∧(∀ f,RelO (fs.lookup f) (mA f))∧PySem.Within mA (fs.map (·.1))
  | .own _=>∃ o,h.get? a=some o
  | .xd fs=>∃ mA,h.Ns1 a mA∧∀ f,RelO (fs.lookup f) (mA f)
  | .rng lo hi=>∃ t u v,h.get? a=some { cls:=.type "range",data:=.fields #[.int lo t,.int hi u,.int 1 v] }
  | .frz o u=>h.get? a=some o∧ObjOk H h a u
  | .tbl ps=>h.get? a=some { cls:=.none,data:=.fields ps }
  | .met f x=>h.get? a=some (PySem.W.methodObj (.ref f) (.ref x))
  | .ext φ=>φ h∧(∃ o,h.get? a=some o)∧∀ h1 h2:Heap,φ h1→(∀ o,h1.get? a=some o→h2.get? a=some o)→φ h2
def HOk (H:Hp) (h:Heap):Prop:=∀ a o,H a=some o→ObjOk P w H h a o
end
section
variable {P : Program} {w : World} {H H' : Hp} {h h' : Heap} {a : Addr} {o : HO}
theorem ObjOk.lt (x:ObjOk P w H h a o):a < h.objs.size:=by
  cases o with
  | lst xs=>obtain ⟨_,_,_,_,e⟩:=x; exact Heap.lt_size e
  | tup xs=>obtain ⟨_,_,_,p⟩:=x; exact p.lt
  | dK kvs=>obtain ⟨_,_,_,_,o,_,_,e,_⟩:=x; exact Heap.lt_size e
  | dT kvs=>obtain ⟨_,_,_,_,o,_,_,e,_⟩:=x; exact Heap.lt_size e
  | set S n=>obtain ⟨o,_,_,_,e,_⟩:=x; exact Heap.lt_size e
  | ins C dx fs=>obtain ⟨_,_,_,e,_⟩:=x; exact Heap.lt_size e
  | own y=>obtain ⟨_,e⟩:=x; exact Heap.lt_size e
  | xd fs=>obtain ⟨_,⟨_,_,_,e,_⟩,_⟩:=x; exact Heap.lt_size e
  | rng lo hi=>obtain ⟨_,_,_,e⟩:=x; exact Heap.lt_size e
  | frz ob u=>obtain ⟨e,_⟩:=x; exact Heap.lt_size e
  | tbl ps=>exact Heap.lt_size (show h.get? a=some _ from x)
  | met f y=>exact Heap.lt_size (show h.get? a=some _ from x)
  | ext φ=>obtain ⟨_,⟨_,e⟩,_⟩:=x; exact Heap.lt_size e
theorem Paired.mapP {α β:Type} {F G:α→β→Prop}:∀ {l₁:List α} {l₂:List β},Paired F l₁ l₂→(∀ a b,F a b→G a b)→Paired G l₁ l₂
  | _,_,.nil,_=>.nil
  | _,_,.cons r t,f=>.cons (f _ _ r) (Paired.mapP t f)
theorem ObjOk.stay (x:ObjOk P w H h a o) (k:∀ b u,(b=a∨H b=some (.own a))→h.get? b=some u→h'.get? b=some u)
    (ho:∀ b,H b=some (.own a)→H' b=some (.own a)) (ht:∀ b xs,H b=some (.tup xs)→H' b=some (.tup xs)):ObjOk P w H' h' a o:=by
  induction o with
  | lst xs=>obtain ⟨z,its,n,r,e⟩:=x; exact ⟨z,its,n,r,k _ _ (.inl rfl) e⟩
  | tup xs=>obtain ⟨z,its,r,ob,e,c⟩:=x; exact ⟨z,its,r,ob,k _ _ (.inl rfl) e,c⟩
  | dK kvs=>obtain ⟨z,y,vs,r,ob,es,ep,e,c⟩:=x; exact ⟨z,y,vs,r,ob,es,ep,k _ _ (.inl rfl) e,c⟩
  | dT kvs =>
    obtain ⟨z,y,xs,r,ob,es,ep,e,c⟩:=x
    exact ⟨z,y,xs,Paired.mapP r fun p q z=>⟨z.1,ht _ _ z.2.1,z.2.2⟩,ob,es,ep,k _ _ (.inl rfl) e,c⟩
  | set S n=>obtain ⟨ob,es,ep,t,e,c⟩:=x; exact ⟨ob,es,ep,t,k _ _ (.inl rfl) e,c⟩
  | ins C dx fs =>
    obtain ⟨d,z,ne,e,mA,⟨od,es,ep,e2,c⟩,r⟩:=x
    exact ⟨ho _ d,z,ne,k _ _ (.inl rfl) e,mA,⟨od,es,ep,k _ _ (.inr d) e2,c⟩,r⟩
  | own y=>obtain ⟨ob,e⟩:=x; exact ⟨ob,k _ _ (.inl rfl) e⟩
  | xd fs=>obtain ⟨mA,⟨od,es,ep,e,c⟩,r⟩:=x; exact ⟨mA,⟨od,es,ep,k _ _ (.inl rfl) e,c⟩,r⟩
  | rng lo hi=>obtain ⟨t,u,v,e⟩:=x; exact ⟨t,u,v,k _ _ (.inl rfl) e⟩
  | frz ob u ih=>obtain ⟨e,q⟩:=x; exact ⟨k _ _ (.inl rfl) e,ih q⟩
  | tbl ps =>
    have e:h.get? a=some { cls:=.none,data:=.fields ps }:=x
    show h'.get? a=some { cls:=.none,data:=.fields ps }
    exact k a _ (.inl rfl) e
  | met f y =>
    have e:h.get? a=some (PySem.W.methodObj (.ref f) (.ref y)):=x
    show h'.get? a=some (PySem.W.methodObj (.ref f) (.ref y))
    exact k a _ (.inl rfl) e
  | ext φ=>obtain ⟨p,⟨o,e⟩,st⟩:=x; exact ⟨st _ _ p fun o q=>k _ _ (.inl rfl) q,⟨o,k _ _ (.inl rfl) e⟩,st⟩
theorem HOk.lt (x:HOk P w H h) (e:H a=some o):a < h.objs.size:=(x a o e).lt
theorem HOk.fresh (x:HOk P w H h) (e:h.objs.size≤a):H a=none:=by
  cases q:H a with
  | none=>rfl
  | some u=>exact absurd (Nat.lt_of_lt_of_le (x.lt q) e) (Nat.lt_irrefl _)
theorem HOk.kept (x:HOk P w H h) (k:∀ b u,h.get? b=some u→h'.get? b=some u):HOk P w H h':=fun a o e =>
  (x a o e).stay (fun b u _ q=>k b u q) (fun _ q=>q) fun _ _ q=>q
theorem HOk.laid (x:HOk P w H h) (k:∀ b u,h.get? b=some u→h'.get? b=some u) (hp:h.objs.size≤a) (new:ObjOk P w (upd H a o) h' a o):HOk P w (upd H a o) h':=fun b u e=>by
  have hn:=x.fresh hp
  by_cases hb:b=a
  · subst hb; rw [upd_same] at e; cases e; exact new
  · rw [upd_ne hb] at e
    exact (x b u e).stay (fun c v _ q=>k c v q) (fun c q=>by rw [upd_ne (ne_of_none q hn)]; exact q) fun c xs q=>by rw [upd_ne (ne_of_none q hn)]; exact q
end
def Rd (H:Hp) (a:Addr) (u:HO):Prop:=H a=some u∨∃ o,H a=some (.frz o u)
theorem Rd.ok {P:Program} {w:World} {H:Hp} {h:Heap} {a:Addr} {u:HO} (r:Rd H a u) (x:HOk P w H h):ObjOk P w H h a u:=by
  rcases r with r | ⟨o,r⟩
  · exact x a u r
  · obtain ⟨_,q⟩:=x a _ r
    exact q
def Mut:Option HO→Prop
  | some (.lst _)=>True
  | some (.dK _)=>True
  | some (.dT _)=>True
  | some (.set _ _)=>True
  | some (.ins _ _ _)=>True
  | some (.ext _)=>True
  | _=>False
section
variable {P : Program} {w : World} {H : Hp} {h h' : Heap} {x e : Addr} {o' : HO}
theorem HOk.write (ok:HOk P w H h) (mu:Mut (H x)) (he:e=x∨H e=some (.own x)) (k:∀ b u,b≠e→h.get? b=some u→h'.get? b=some u) (heo:∃ u,h'.get? e=some u)
    (new:ObjOk P w (upd H x o') h' x o'):HOk P w (upd H x o') h':=fun b u q=>by
  have nown:∀ c y,H c=some (.own y)→c≠x:=fun c y r z=>by subst z; rw [r] at mu; exact mu
  have ntup:∀ c xs,H c=some (.tup xs)→c≠x:=fun c xs r z=>by subst z; rw [r] at mu; exact mu
  by_cases hb:b=x
  · subst hb; rw [upd_same] at q; cases q; exact new
  · rw [upd_ne hb] at q
    by_cases hbe:b=e
    · have q':H b=some (.own x):=by
        rcases he with z | z
        · exact absurd (hbe.trans z) hb
        · rw [hbe]; exact z
      rw [q] at q'; cases q'
      obtain ⟨v,hv⟩:=heo
      exact ⟨v,by rw [hbe]; exact hv⟩
    · refine (ok b u q).stay (fun c v hc r=>k c v ?_ r) (fun c r=>by rw [upd_ne (nown c b r)]; exact r) fun c xs r=>by rw [upd_ne (ntup c xs r)]; exact r
      rcases hc with rfl | hc
      · exact hbe
      · rintro rfl
        rcases he with z | z
        · exact nown c b hc z
        · rw [hc] at z; cases z; exact hb rfl
end
structure Un (fs ex:List Addr) (H H':Hp) (h h':Heap):Prop where
  keep:∀ b o,h.get? b=some o→H b=none→b ∉ fs→b ∉ ex→h'.get? b=some o
  slot:∀ b o,h.get? b=some o→H b=none→b∈fs→b ∉ ex→∃ sl,h'.get? b=some { o with slots:=sl }
  free:∀ b o,h.get? b=some o→H b=none→b ∉ ex→H' b=none
  there:∀ b o,h.get? b=some o→b ∉ ex→∃ o',h'.get? b=some o'
  tups:∀ b xs,H b=some (.tup xs)→H' b=some (.tup xs)
  frzs:∀ b o u,H b=some (.frz o u)→H' b=some (.frz o u)
  tbls:∀ b ps,H b=some (.tbl ps)→∃ more,H' b=some (.tbl (ps ++ more))
section
variable {fs fs' ex ex' : List Addr} {H H1 H2 : Hp} {h h1 h2 h' : Heap} {a x e : Addr} {o : HO}
theorem Un.any (u:Un fs ex H H1 h h1) {b:Addr} {ob:Obj} (q:h.get? b=some ob) (n:H b=none) (hx:b ∉ ex):∃ sl,h1.get? b=some { ob with slots:=sl }:=by
  by_cases hb:b∈fs
  · exact u.slot b ob q n hb hx
  · exact ⟨ob.slots,u.keep b ob q n hb hx⟩
theorem Un.kept (k:∀ b u,h.get? b=some u→h'.get? b=some u):Un fs ex H H h h' :=
  ⟨fun b ob q _ _ _=>k b ob q,fun b ob q _ _ _=>⟨ob.slots,k b ob q⟩,fun _ _ _ n _=>n,fun b ob q _=>⟨ob,k b ob q⟩,fun _ _ q=>q,fun _ _ _ q=>q,fun _ ps q=>⟨#[],by rw [q]; simp⟩⟩
theorem Un.refl:Un fs ex H H h h:=Un.kept fun _ _ q=>q
theorem Un.laid (k:∀ b u,h.get? b=some u→h'.get? b=some u) (hp:h.objs.size≤a) (hn:H a=none):Un fs ex H (upd H a o) h h' where
  keep:=fun b u q _ _ _=>k b u q
  slot:=fun b u q _ _ _=>⟨u.slots,k b u q⟩
  free:=fun b u q n _=>by rw [upd_ne (Nat.ne_of_lt (Nat.lt_of_lt_of_le (Heap.lt_size q) hp))]; exact n
  there:=fun b u q _=>⟨u,k b u q⟩
  tups:=fun b xs q=>by rw [upd_ne (ne_of_none q hn)]; exact q
  frzs:=fun b u xs q=>by rw [upd_ne (ne_of_none q hn)]; exact q
  tbls:=fun b ps q=>⟨#[],by rw [upd_ne (ne_of_none q hn),q]; simp⟩
theorem Un.write (mu:Mut (H x)) (he:e=x∨H e=some (.own x)) (k:∀ b u,b≠e→h.get? b=some u→h'.get? b=some u) (heo:∃ u,h'.get? e=some u):Un fs ex H (upd H x o) h h':=by
  have hx:∀ b,H b=none→b≠x:=fun b n z=>by subst z; rw [n] at mu; exact mu
  have hb:∀ b,H b=none→b≠e:=fun b n z=>by
    subst z
    rcases he with r | r
    · exact hx b n r
    · rw [n] at r; cases r
  have hm:∀ b u,H b=some u→¬ Mut (some u)→b≠x:=fun b u q nm z=>by subst z; rw [q] at mu; exact nm mu
  refine ⟨fun b u q n _ _=>k b u (hb b n) q,fun b u q n _ _=>⟨u.slots,k b u (hb b n) q⟩,fun b u q n _=>by rw [upd_ne (hx b n)]; exact n,fun b u q _=>?_,
    fun b xs q=>by rw [upd_ne (hm b _ q fun z=>z)]; exact q,fun b u xs q=>by rw [upd_ne (hm b _ q fun z=>z)]; exact q,fun b ps q=>⟨#[],by rw [upd_ne (hm b _ q fun z=>z),q]; simp⟩⟩
  by_cases hbe:b=e
  · subst hbe; exact heo
  · exact ⟨u,k b u hbe q⟩
end
def trk (h:Heap) (H:Hp):List Addr:=(List.range h.objs.size).filter fun a=>(H a).isSome
def hidT (h:Heap) (H:Hp):Heap:=PySem.W.hideAll h (trk h H)
theorem hidT_size (h:Heap) (H:Hp):(hidT h H).objs.size=h.objs.size:=PySem.W.hideAll_size _ _
theorem hidT_get {h:Heap} {H:Hp} {b:Addr} {o:Obj} (e:h.get? b=some o) (n:H b=none):(hidT h H).get? b=some o :=
  PySem.W.hideAll_get _ e fun hm=>by
    have q:(H b).isSome=true:=(List.mem_filter.mp hm).2
    rw [n] at q; simp at q
theorem of_hidT {h:Heap} {H:Hp} {b:Addr} {o:Obj} (e:(hidT h H).get? b=some o):h.get? b=some o∧H b=none:=by
  have e':h.get? b=some o:=PySem.W.of_hideAll (trk h H) e
  refine ⟨e',?_⟩
  cases q:H b with
  | none=>rfl
  | some x =>
    have hm:b∈trk h H:=List.mem_filter.mpr ⟨List.mem_range.mpr (Heap.lt_size e'),by simp [q]⟩
    have z:(hidT h H).get? b=none:=PySem.W.hideAll_none (trk h H) hm
    rw [z] at e; cases e
def allNews (g h:Heap) (L:Addr):List (Addr × Obj):=(List.range h.objs.size).filterMap fun a=>if a=L∨(g.get? a).isSome=true then none else (h.get? a).map fun o=>(a,o)
def rest (g h:Heap) (L d:Addr):List (Addr × Obj):=(allNews g h L).filter fun p=>decide (p.1≠d)
end L2
namespace L2
open PySem PySem.Spec PyProof.Rows
structure Mod (K:PySem.W.Frag) (mg:Str→Option Value) (base:Heap):Prop where
  kin:K.In base
  glob:base.Ns mainGlobals mg
  blt:∃ mb,base.Ns builtinsNs mb∧∀ x:Str,x≠"__name__"→mb x=bootBuiltins x
  nolimit:base.NoLimit
  seer:base.NoSeer
structure Cx where
  prog:Program
  w:World
  K:PySem.W.Frag
  mg:Str→Option Value
  base:Heap
  A:Around
  N:List Str
  s₀:Shared
  H₀:Hp
  env:Env
  outer:List Env
  stack:List Env
  ex:List Addr
  fn:Str→Bool
  calm:Bool
  pn:List (Addr × Obj)
  kn:Nat→Option V
  xe:Value→Shared→Prop
def frs (l:List Env):List Addr:=l.filterMap (·.frame)
abbrev Cx.fs (X:Cx):List Addr:=frs X.outer
def Vis (sc:Scope) (x:Str):Prop:=sc.names.lookup x=some .local∨sc.names.lookup x=some .cell∨sc.names.lookup x=some .free
def Loc (sc:Scope) (x:Str):Prop:=sc.names.lookup x=some .local∨sc.names.lookup x=some .cell
def Look (env:Env) (h:Heap) (m:Str→Option Value) (x:Str) (u:Value):Prop :=
  (env.kindOf x=some .local∧m x=some u)∨((env.kindOf x=some .cell∨env.kindOf x=some .free)∧∃ c,env.cells.lookup x=some c∧h.IsCell c (some u))
structure Cx.Ok (X:Cx):Prop where
  mod:Mod X.K X.mg X.base
  kind:X.env.scope.kind=.function
  glob:X.env.globals=mainGlobals
  blt:X.env.builtins=builtinsNs
  above:X.s₀.heap.objs.size≤X.env.locals
  inj:∀ x y c,X.env.cells.lookup x=some c→X.env.cells.lookup y=some c→x=y
  has:∀ x,(X.env.kindOf x=some .cell∨X.env.kindOf x=some .free)→∃ c,X.env.cells.lookup x=some c
  cab:∀ x c,X.fn x=true→X.env.cells.lookup x=some c→X.s₀.heap.objs.size≤c
  hd:X.calm=true→X.A.handled=none
  frames:X.A.frames=some X.stack
  stk:X.stack=X.outer∨(X.stack=X.env :: X.outer∧X.env.frame=some X.env.locals)
  exf:∀ b∈X.ex,b≠X.env.locals∧∀ x c,X.env.cells.lookup x=some c→c≠b
  bs:∀ b o,X.base.get? b=some o→X.s₀.heap.get? b=some o∧X.H₀ b=none
  bsz:X.base.objs.size≤X.s₀.heap.objs.size
  noex:∀ b o,X.base.get? b=some o→b ∉ X.ex
  exfs:∀ b∈X.ex,b ∉ X.fs
  funs:X.s₀.heap.FunFrames X.base X.outer
  frf:∀ b∈X.fs,X.H₀ b=none
structure Inv (X:Cx) (pins:List (Addr × Obj)) (σ:List (Option V)) (H:Hp) (s:Shared):Prop where
  ok:X.Ok
  os:s.os=X.s₀.os
  bare:AllBare s.gens
  base:Un X.fs X.ex X.H₀ H X.s₀.heap s.heap
  loc:∃ m,s.heap.Ns X.env.locals m∧∀ (i:Nat) (x:Str) (v:V),X.N[i]?=some x→σ[i]?=some (some v)→Vis X.env.scope x→∃ u,RelV v u∧Look X.env s.heap m x u
  cell:∀ x c,X.env.cells.lookup x=some c→∃ v,s.heap.IsCell c v
  free:H X.env.locals=none
  freeC:∀ x c,X.env.cells.lookup x=some c→H c=none
  pin:∀ p∈X.pn ++ pins,s.heap.get? p.1=some p.2∧H p.1=none∧p.1≠X.env.locals∧p.1 ∉ X.fs∧∀ v,p.2.data≠.cell v
  hok:HOk X.prog X.w H s.heap
  len:σ.length=X.N.length
  kno:∀ (i:Nat) (v:V),X.kn i=some v→σ[i]?=some (some v)
section
variable {X : Cx} {pins : List (Addr × Obj)} {σ : List (Option V)} {H H' : Hp} {s : Shared} {h' : Heap}
theorem Cx.Ok.nofr (ok:X.Ok) {b:Addr} {o:Obj} (e:X.base.get? b=some o):b ∉ X.fs:=fun hb=>by
  have:=(ok.funs.mem hb).1
  rw [e] at this; cases this
theorem Inv.bs (I:Inv X pins σ H s):∀ b o,X.base.get? b=some o→s.heap.get? b=some o∧H b=none:=fun b o e =>
  ⟨I.base.keep b o (I.ok.bs b o e).1 (I.ok.bs b o e).2 (I.ok.nofr e) (I.ok.noex b o e),I.base.free b o (I.ok.bs b o e).1 (I.ok.bs b o e).2 (I.ok.noex b o e)⟩
theorem Inv.bk (I:Inv X pins σ H s):∀ b o,X.base.get? b=some o→s.heap.get? b=some o:=fun b o e=>(I.bs b o e).1
theorem Inv.mod (I:Inv X pins σ H s):Mod X.K X.mg X.base:=I.ok.mod
theorem Inv.kIn (I:Inv X pins σ H s):X.K.In s.heap:=I.ok.mod.kin.keeps I.bk
theorem Inv.nolimit (I:Inv X pins σ H s):s.heap.NoLimit:=I.ok.mod.nolimit.keeps I.bk
theorem Inv.fr (I:Inv X pins σ H s):∃ m,Fr X.base X.env.locals s.heap m :=
  let ⟨m,hn,_⟩:=I.loc
  ⟨m,hn,I.bk,Nat.le_trans I.ok.bsz I.ok.above⟩
theorem Inv.lt (I:Inv X pins σ H s):X.env.locals < s.heap.objs.size:=let ⟨_,hn,_⟩:=I.loc; hn.lt
theorem Inv.sz (I:Inv X pins σ H s):X.s₀.heap.objs.size≤s.heap.objs.size:=Nat.le_trans I.ok.above (Nat.le_of_lt I.lt)
theorem Inv.nofs (I:Inv X pins σ H s) {a:Addr} (h:s.heap.objs.size≤a):a ∉ X.fs:=fun hb=>by
  obtain ⟨_,o,ho,_⟩:=I.ok.funs.mem hb
  exact absurd (Nat.lt_of_lt_of_le (Heap.lt_size ho) (Nat.le_trans I.sz h)) (Nat.lt_irrefl _)
theorem Inv.cne (I:Inv X pins σ H s):∀ x c,X.env.cells.lookup x=some c→c≠X.env.locals:=fun x c e z=>by
  obtain ⟨v,o,ho,hd⟩:=I.cell x c e
  obtain ⟨m,⟨o',es,ep,ho',hd',_⟩,_⟩:=I.loc
  rw [z,ho'] at ho; cases ho; rw [hd'] at hd; cases hd
theorem Inv.funs (I:Inv X pins σ H s):s.heap.FunFrames X.base X.outer:=by
  have all:∀ (l:List Env),(∀ b∈frs l,b∈X.fs)→X.s₀.heap.FunFrames X.base l→s.heap.FunFrames X.base l:=by
    intro l
    induction l with
    | nil=>intro _ _; trivial
    | cons env r ih =>
      intro hs hl
      obtain ⟨hk,⟨L,o,hf,hn,ho,hd⟩,hr⟩:=hl
      have hL:L∈X.fs:=hs L (by unfold frs; rw [List.filterMap_cons,hf]; exact List.mem_cons_self)
      obtain ⟨sl,e⟩:=I.base.slot L o ho (I.ok.frf L hL) hL fun z=>I.ok.exfs L z hL
      exact ⟨hk,⟨L,_,hf,hn,e,hd⟩,ih (fun b hb=>hs b (by unfold frs; rw [List.filterMap_cons,hf]; exact List.mem_cons_of_mem _ hb)) hr⟩
  exact all X.outer (fun _ hb=>hb) I.ok.funs
theorem Inv.stack (I:Inv X pins σ H s):s.heap.FunFrames X.base X.stack:=by
  rcases I.ok.stk with e | ⟨e,hf⟩
  · rw [e]; exact I.funs
  · rw [e]
    obtain ⟨m,hn,_⟩:=I.loc
    refine .cons (by rw [I.ok.kind]; decide) hf hn ?_ I.funs
    exact Heap.get?_none_of_le (Nat.le_trans I.ok.bsz I.ok.above)
theorem Inv.stkSub (I:Inv X pins σ H s):∀ b∈frs X.stack,b∈X.env.locals :: X.fs:=fun b hb=>by
  rcases I.ok.stk with e | ⟨e,hf⟩
  · rw [e] at hb; exact List.mem_cons_of_mem _ hb
  · rw [e] at hb
    unfold frs at hb
    rw [List.filterMap_cons,hf] at hb
    exact hb
theorem Inv.stkFree (I:Inv X pins σ H s):∀ b∈frs X.stack,H b=none:=fun b hb=>by
  rcases List.mem_cons.mp (I.stkSub b hb) with e | hb
  · rw [e]; exact I.free
  · obtain ⟨_,o,ho,_⟩:=I.ok.funs.mem hb
    exact I.base.free b o ho (I.ok.frf b hb) fun z=>I.ok.exfs b z hb
theorem Inv.step {g':Array GenState} {t':Nat} {d':Drawn} {ch:List Addr} (I:Inv X pins σ H s)
    (hch:∀ b∈ch,(b∈X.ex∨X.s₀.heap.objs.size≤b)∧b≠X.env.locals∧(∀ x c,X.env.cells.lookup x=some c→c≠b)∧∀ p∈X.pn ++ pins,p.1≠b)
    (keep:∀ b o,b≠X.env.locals→b ∉ X.fs→b ∉ ch→s.heap.get? b=some o→H b=none→h'.get? b=some o)
    (slot:∀ b o,b≠X.env.locals→b∈X.fs→b ∉ ch→s.heap.get? b=some o→H b=none→∃ sl,h'.get? b=some { o with slots:=sl }) (free:∀ b o,b ∉ ch→s.heap.get? b=some o→H b=none→H' b=none)
    (there:∀ b o,b ∉ ch→s.heap.get? b=some o→∃ o',h'.get? b=some o')
    (tups:∀ b xs,H b=some (.tup xs)→H' b=some (.tup xs)) (frzs:∀ b o u,H b=some (.frz o u)→H' b=some (.frz o u)) (tbls:∀ b ps,H b=some (.tbl ps)→∃ more,H' b=some (.tbl (ps ++ more)))
    (ns:∀ m,s.heap.Ns X.env.locals m→h'.Ns X.env.locals m) (hok:HOk X.prog X.w H' h') (hg:AllBare g') :
    Inv X pins σ H' { s with heap:=h',gens:=g',drawn:=d',toks:=t' }:=by
  have neL:∀ b o,X.s₀.heap.get? b=some o→b≠X.env.locals:=fun b o e=>Nat.ne_of_lt (Nat.lt_of_lt_of_le (Heap.lt_size e) I.ok.above)
  have neC:∀ b o,X.s₀.heap.get? b=some o→b ∉ X.ex→b ∉ ch:=fun b o e hx hb=>by
    rcases (hch b hb).1 with z | z
    · exact hx z
    · exact absurd (Nat.lt_of_lt_of_le (Heap.lt_size e) z) (Nat.lt_irrefl _)
  have cellK:∀ x c,X.env.cells.lookup x=some c→∀ v,s.heap.IsCell c v→h'.IsCell c v:=fun x c e v ⟨o,ho,hd⟩=>by
    have nch:c ∉ ch:=fun z=>(hch c z).2.2.1 x c e rfl
    by_cases hc:c∈X.fs
    · obtain ⟨sl,q⟩:=slot c o (I.cne x c e) hc nch ho (I.freeC x c e)
      exact ⟨_,q,hd⟩
    · exact ⟨o,keep c o (I.cne x c e) hc nch ho (I.freeC x c e),hd⟩
  refine ⟨I.ok,I.os,hg,⟨fun b o e n hb hx=>?_,fun b o e n hb hx=>?_,fun b o e n hx=>?_,fun b o e hx=>?_,fun b xs e=>tups b xs (I.base.tups b xs e),fun b o xs e=>frzs b o xs (I.base.frzs b o xs e),fun b ps e=>?_⟩,?_,fun x c e=>?_,?_,fun x c e=>?_,fun p hp=>?_,hok,I.len,I.kno⟩
  · exact keep b o (neL b o e) hb (neC b o e hx) (I.base.keep b o e n hb hx) (I.base.free b o e n hx)
  · obtain ⟨sl,e1⟩:=I.base.slot b o e n hb hx
    obtain ⟨sl',e2⟩:=slot b _ (neL b o e) hb (neC b o e hx) e1 (I.base.free b o e n hx)
    exact ⟨sl',e2⟩
  · obtain ⟨o',e1⟩:=I.base.there b o e hx
    exact free b o' (neC b o e hx) e1 (I.base.free b o e n hx)
  · obtain ⟨o',e1⟩:=I.base.there b o e hx
    exact there b o' (neC b o e hx) e1
  · obtain ⟨m1,e1⟩:=I.base.tbls b ps e
    obtain ⟨m2,e2⟩:=tbls b _ e1
    exact ⟨m1 ++ m2,by rw [e2,Array.append_assoc]⟩
  · obtain ⟨m,hn,hl⟩:=I.loc
    refine ⟨m,ns m hn,fun i x v e1 e2 e3=>?_⟩
    obtain ⟨u,r,l⟩:=hl i x v e1 e2 e3
    refine ⟨u,r,?_⟩
    rcases l with l | ⟨k,c,e,z⟩
    · exact .inl l
    · exact .inr ⟨k,c,e,cellK x c e _ z⟩
  · obtain ⟨v,z⟩:=I.cell x c e
    exact ⟨v,cellK x c e v z⟩
  · obtain ⟨m,⟨o,_,_,ho,_⟩,_⟩:=I.loc
    exact free _ o (fun z=>(hch _ z).2.1 rfl) ho I.free
  · obtain ⟨v,o,ho,hd⟩:=I.cell x c e
    exact free c o (fun z=>(hch c z).2.2.1 x c e rfl) ho (I.freeC x c e)
  · obtain ⟨e,n,ne,nf,d⟩:=I.pin p hp
    have nch:p.1 ∉ ch:=fun z=>(hch p.1 z).2.2.2 p hp rfl
    exact ⟨keep p.1 p.2 ne nf nch e n,free p.1 p.2 nch e n,ne,nf,d⟩
theorem Inv.un {t':Nat} (I:Inv X pins σ H s) (u:Un X.fs [] H H' s.heap h') (hok:HOk X.prog X.w H' h'):Inv X pins σ H' { s with heap:=h',toks:=t' }:=by
  obtain ⟨m,⟨o,es,ep,ho,r⟩,_⟩:=id I.loc
  obtain ⟨sl,hL⟩:=u.any ho I.free (by simp)
  exact I.step (g':=s.gens) (d':=s.drawn) (ch:=[]) (fun _ z=>nomatch z) (fun b o _ hb _ e n=>u.keep b o e n hb (by simp)) (fun b o _ hb _ e n=>u.slot b o e n hb (by simp)) (fun b o _ e n=>u.free b o e n (by simp)) (fun b o _ e=>u.there b o e (by simp)) u.tups u.frzs u.tbls (fun m' hm=>by
    obtain ⟨o',es',ep',ho',r'⟩:=hm
    rw [ho] at ho'; cases ho'
    exact ⟨_,es',ep',hL,r'⟩) hok I.bare
theorem Inv.call {g':Array GenState} {t':Nat} {d':Drawn} {ch:List Addr} (I:Inv X pins σ H s) (u:Un (frs X.stack) ch H H' s.heap h') (hok:HOk X.prog X.w H' h') (hg:AllBare g')
    (hch:∀ b∈ch,(b∈X.ex∨X.s₀.heap.objs.size≤b)∧b≠X.env.locals∧(∀ x c,X.env.cells.lookup x=some c→c≠b)∧∀ p∈X.pn ++ pins,p.1≠b) :
    Inv X pins σ H' { s with heap:=h',gens:=g',drawn:=d',toks:=t' }:=by
  obtain ⟨m,⟨o,es,ep,ho,r⟩,_⟩:=id I.loc
  obtain ⟨sl,hL⟩:=u.any ho I.free fun z=>(hch _ z).2.1 rfl
  exact I.step (ch:=ch) hch (fun b o hL hb hc e n=>u.keep b o e n (fun z=>(List.mem_cons.mp (I.stkSub b z)).elim hL hb) hc) (fun b o _ _ hc e n=>u.any e n hc) (fun b o hc e n=>u.free b o e n hc) (fun b o hc e=>u.there b o e hc) u.tups u.frzs u.tbls (fun m' hm=>by
    obtain ⟨o',es',ep',ho',r'⟩:=hm
    rw [ho] at ho'; cases ho'
    exact ⟨_,es',ep',hL,r'⟩) hok hg
theorem Inv.turned {t':Nat} {it:Addr} (I:Inv X pins σ H s) (k:∀ b o,b≠it→s.heap.get? b=some o→h'.get? b=some o) (hn:H it=none) (hL:it≠X.env.locals)
    (h1:it∈X.ex∨X.s₀.heap.objs.size≤it) (h2:∀ x c,X.env.cells.lookup x=some c→c≠it) (h3:∀ p∈X.pn ++ pins,p.1≠it):Inv X pins σ H { s with heap:=h',toks:=t' }:=by
  have nit:∀ b u,H b=some u→b≠it:=fun b u e z=>by rw [z,hn] at e; cases e
  refine I.step (g':=s.gens) (d':=s.drawn) (ch:=[it]) (fun b hb=>?_) (fun b o _ _ hc e _=>k b o (fun z=>hc (by simp [z])) e) (fun b o _ _ hc e _=>⟨o.slots,k b o (fun z=>hc (by simp [z])) e⟩) (fun _ _ _ _ n=>n)
    (fun b o hc e=>⟨o,k b o (fun z=>hc (by simp [z])) e⟩) (fun _ _ e=>e) (fun _ _ _ e=>e) (fun b ps e=>⟨#[],by rw [e]; simp⟩) (fun m hm=>?_) (fun b u e=>?_) I.bare
  · have e:b=it:=by simpa using hb
    subst e
    exact ⟨h1,hL,h2,h3⟩
  · obtain ⟨o,es,ep,ho,r⟩:=hm
    exact ⟨o,es,ep,k _ o (Ne.symm hL) ho,r⟩
  · refine (I.hok b u e).stay (fun c v hc q=>k c v ?_ q) (fun _ q=>q) fun _ _ q=>q
    rcases hc with z | z
    · rw [z]; exact nit b u e
    · exact nit c _ z
theorem Inv.tok (I:Inv X pins σ H s) (t:Nat):Inv X pins σ H { s with toks:=t }:=I.un (h':=s.heap) (t':=t) Un.refl I.hok
theorem Inv.kept {t':Nat} (I:Inv X pins σ H s) (k:∀ b u,s.heap.get? b=some u→h'.get? b=some u):Inv X pins σ H { s with heap:=h',toks:=t' }:=I.un (Un.kept k) (I.hok.kept k)
theorem Inv.laid {a:Addr} {o:HO} {t':Nat} (I:Inv X pins σ H s) (k:∀ b u,s.heap.get? b=some u→h'.get? b=some u) (hp:s.heap.objs.size≤a) (new:ObjOk X.prog X.w (upd H a o) h' a o) :
    Inv X pins σ (upd H a o) { s with heap:=h',toks:=t' }:=I.un (Un.laid k hp (I.hok.fresh hp)) (I.hok.laid k hp new)
theorem Inv.write {x e:Addr} {o:HO} {t':Nat} (I:Inv X pins σ H s) (mu:Mut (H x)) (he:e=x∨H e=some (.own x)) (k:∀ b u,b≠e→s.heap.get? b=some u→h'.get? b=some u) (heo:∃ u,h'.get? e=some u)
    (new:ObjOk X.prog X.w (upd H x o) h' x o):Inv X pins σ (upd H x o) { s with heap:=h',toks:=t' }:=I.un (Un.write mu he k heo) (I.hok.write mu he k heo new)
theorem Inv.weak {σ':List (Option V)} (I:Inv X pins σ H s) (hl:σ'.length=σ.length) (w:∀ (i:Nat) v,σ'[i]?=some (some v)→σ[i]?=some (some v)) (wk:∀ (i:Nat) v,X.kn i=some v→σ'[i]?=some (some v)):Inv X pins σ' H s :=
  ⟨I.ok,I.os,I.bare,I.base,let ⟨m,hn,hl'⟩:=I.loc; ⟨m,hn,fun i x v e1 e2 e3=>hl' i x v e1 (w i v e2) e3⟩,I.cell,I.free,I.freeC,I.pin,I.hok,hl.trans I.len,wk⟩
theorem Inv.pins_of {pins':List (Addr × Obj)} (I:Inv X pins σ H s) (h:∀ p∈pins',s.heap.get? p.1=some p.2∧H p.1=none∧p.1≠X.env.locals∧p.1 ∉ X.fs∧∀ v,p.2.data≠.cell v):Inv X pins' σ H s :=
  ⟨I.ok,I.os,I.bare,I.base,I.loc,I.cell,I.free,I.freeC,fun p hp=>(List.mem_append.mp hp).elim (fun z=>I.pin p (List.mem_append_left _ z)) (h p),I.hok,I.len,I.kno⟩
theorem nodup_ix {N:List Str} (hN:N.Nodup) {i j:Nat} {x:Str} (a:N[i]?=some x) (b:N[j]?=some x):i=j:=by
  obtain ⟨h1,e1⟩:=List.getElem?_eq_some_iff.mp a
  obtain ⟨h2,e2⟩:=List.getElem?_eq_some_iff.mp b
  exact (List.getElem_inj hN).mp (e1.trans e2.symm)
theorem store_ok2 {M:Model} {A:Around} {E:Value→Shared→Prop} {i:Nat} {x:Str} {v:V} {u:Value} {Q:Unit→Shared→Prop} (I:Inv X pins σ H s) (hN:X.N.Nodup) (hi:X.N[i]?=some x) (hx:Loc X.env.scope x) (r:RelV v u)
    (h:∀ s',Inv X pins (σ.set i (some v)) H s'→(∃ a,Heap.SameBut a s.heap s'.heap∧(a=X.env.locals∨X.env.cells.lookup x=some a))→Q () s') (hf:X.fn x=true∨X.env.scope.names.lookup x=some .local:=by first | exact .inl rfl | exact .inr rfl | assumption) (hkn:X.kn i=Option.none:=by rfl):wpAny M A (storeName X.env x u) Q E s:=by
  have kset:∀ (j:Nat) (v2:V),X.kn j=some v2→(σ.set i (some v))[j]?=some (some v2):=fun j v2 z=>by
    have hj:i≠j:=fun e=>by subst e; rw [hkn] at z; cases z
    rw [List.getElem?_set_ne hj]
    exact I.kno j v2 z
  obtain ⟨m,hn,hl⟩:=id I.loc
  have hcls:(X.env.scope.kind == .class || (X.env.scope.kind == .module && X.env.locals != X.env.globals))=false:=by rw [I.ok.kind]; rfl
  have hiσ:i < σ.length:=by rw [I.len]; exact (List.getElem?_eq_some_iff.mp hi).1
  have cne:=I.cne
  have tracked:∀ {a:Addr} {h':Heap},(∃ o,s.heap.get? a=some o∧H a=none)→Heap.SameBut a s.heap h'→HOk X.prog X.w H h':=fun {a h'} ha hs b ob e=>by
    obtain ⟨_,_,hfree⟩:=ha
    refine (I.hok b ob e).stay (fun c w' hc q=>(hs.2 c ?_).trans q) (fun _ q=>q) fun _ _ q=>q
    rintro rfl
    rcases hc with rfl | hc
    · rw [hfree] at e; cases e
    · rw [hfree] at hc; cases hc
  rcases hx with hk | hk
  · refine wpAny_storeName_local hk hn (fun h' hn' hs=>?_) hcls
    obtain ⟨oL,_,_,hoL,_⟩:=id hn
    refine h _ ⟨I.ok,I.os,I.bare,⟨fun b o e n hb hx=>?_,fun b o e n hb hx=>?_,I.base.free,fun b o e hx=>?_,I.base.tups,I.base.frzs,I.base.tbls⟩,⟨_,hn',fun j y v' e1 e2 e3=>?_⟩,fun y c e=>?_,I.free,I.freeC,fun p hp=>?_,tracked ⟨oL,hoL,I.free⟩ hs,by simpa using I.len,kset⟩ ⟨_,hs,.inl rfl⟩
    · exact (hs.2 b (Nat.ne_of_lt (Nat.lt_of_lt_of_le (Heap.lt_size e) I.ok.above))).trans (I.base.keep b o e n hb hx)
    · obtain ⟨sl,e1⟩:=I.base.slot b o e n hb hx
      exact ⟨sl,(hs.2 b (Nat.ne_of_lt (Nat.lt_of_lt_of_le (Heap.lt_size e) I.ok.above))).trans e1⟩
    · obtain ⟨o',e1⟩:=I.base.there b o e hx
      exact ⟨o',(hs.2 b (Nat.ne_of_lt (Nat.lt_of_lt_of_le (Heap.lt_size e) I.ok.above))).trans e1⟩
    · by_cases hj:j=i
      · subst hj
        rw [hi] at e1; cases e1
        rw [List.getElem?_set_self hiσ] at e2
        cases e2
        exact ⟨u,r,.inl ⟨hk,by simp⟩⟩
      · rw [List.getElem?_set_ne (Ne.symm hj)] at e2
        obtain ⟨u',r',q⟩:=hl j y v' e1 e2 e3
        refine ⟨u',r',?_⟩
        rcases q with ⟨k,e⟩ | ⟨k,c,e,z⟩
        · refine .inl ⟨k,?_⟩
          have:y≠x:=fun e=>hj (nodup_ix hN e1 (e ▸ hi))
          simp [this,e]
        · exact .inr ⟨k,c,e,z.sameBut hs (cne y c e)⟩
    · obtain ⟨w',z⟩:=I.cell y c e
      exact ⟨w',z.sameBut hs (cne y c e)⟩
    · obtain ⟨e,n,ne,nf,d⟩:=I.pin p hp
      exact ⟨(hs.2 p.1 ne).trans e,n,ne,nf,d⟩
  · have hfn:X.fn x=true:=by
      rcases hf with z | z
      · exact z
      · rw [z] at hk; cases hk
    obtain ⟨c,hc⟩:=I.ok.has x (.inl hk)
    obtain ⟨w',z⟩:=I.cell x c hc
    refine wpAny_storeName_cell I.ok.kind hk hc z (fun h' hc' hs=>?_)
    obtain ⟨oc,hoc,hocd⟩:=id z
    refine h { s with heap:=h' } ⟨I.ok,I.os,I.bare,⟨fun b o e n hb hx=>?_,fun b o e n hb hx=>?_,I.base.free,fun b o e hx=>?_,I.base.tups,I.base.frzs,I.base.tbls⟩,⟨m,hn.sameBut hs (Ne.symm (cne x c hc)),fun j y v' e1 e2 e3=>?_⟩,fun y c' e=>?_,I.free,I.freeC,fun p hp=>?_,tracked ⟨oc,hoc,I.freeC x c hc⟩ hs,by simpa using I.len,kset⟩ ⟨c,hs,.inr hc⟩
    · exact (hs.2 b (Nat.ne_of_lt (Nat.lt_of_lt_of_le (Heap.lt_size e) (I.ok.cab x c hfn hc)))).trans (I.base.keep b o e n hb hx)
    · obtain ⟨sl,e1⟩:=I.base.slot b o e n hb hx
      exact ⟨sl,(hs.2 b (Nat.ne_of_lt (Nat.lt_of_lt_of_le (Heap.lt_size e) (I.ok.cab x c hfn hc)))).trans e1⟩
    · obtain ⟨o',e1⟩:=I.base.there b o e hx
      exact ⟨o',(hs.2 b (Nat.ne_of_lt (Nat.lt_of_lt_of_le (Heap.lt_size e) (I.ok.cab x c hfn hc)))).trans e1⟩
    · by_cases hj:j=i
      · subst hj
        rw [hi] at e1; cases e1
        rw [List.getElem?_set_self hiσ] at e2
        cases e2
        exact ⟨u,r,.inr ⟨.inl hk,c,hc,hc'⟩⟩
      · rw [List.getElem?_set_ne (Ne.symm hj)] at e2
        obtain ⟨u',r',q⟩:=hl j y v' e1 e2 e3
        refine ⟨u',r',?_⟩
        rcases q with q | ⟨k,c',e,z'⟩
        · exact .inl q
        · refine .inr ⟨k,c',e,z'.sameBut hs ?_⟩
          rintro rfl
          exact hj (nodup_ix hN e1 (I.ok.inj _ _ _ e hc ▸ hi))
    · by_cases hcc:c'=c
      · subst hcc; exact ⟨_,hc'⟩
      · obtain ⟨w2,z2⟩:=I.cell y c' e
        exact ⟨w2,z2.sameBut hs hcc⟩
    · obtain ⟨e,n,ne,nf,d⟩:=I.pin p hp
      refine ⟨(hs.2 p.1 ?_).trans e,n,ne,nf,d⟩
      intro q
      rw [q,hoc] at e
      have q':oc=p.2:=Option.some.inj e
      exact d w' (by rw [← q']; exact hocd)
theorem store_ok {M:Model} {A:Around} {E:Value→Shared→Prop} {i:Nat} {x:Str} {v:V} {u:Value} {Q:Unit→Shared→Prop} (I:Inv X pins σ H s) (hN:X.N.Nodup) (hi:X.N[i]?=some x) (hx:Loc X.env.scope x) (r:RelV v u)
    (h:∀ s',Inv X pins (σ.set i (some v)) H s'→Q () s') (hf:X.fn x=true∨X.env.scope.names.lookup x=some .local:=by first | exact .inl rfl | exact .inr rfl | assumption) (hkn:X.kn i=Option.none:=by rfl):wpAny M A (storeName X.env x u) Q E s :=
  store_ok2 I hN hi hx r (fun s' I' _=>h s' I') hf hkn
theorem Inv.call' {s':Shared} {ch:List Addr} (I:Inv X pins σ H s) (ho:s'.os=s.os) (u:Un (frs X.stack) ch H H' s.heap s'.heap) (hok:HOk X.prog X.w H' s'.heap) (hg:AllBare s'.gens)
    (hch:∀ b∈ch,(b∈X.ex∨X.s₀.heap.objs.size≤b)∧b≠X.env.locals∧(∀ x c,X.env.cells.lookup x=some c→c≠b)∧∀ p∈X.pn ++ pins,p.1≠b):Inv X pins σ H' s':=by
  obtain ⟨h',g',d',t',o'⟩:=s'
  have e:o'=s.os:=ho
  subst e
  exact I.call (g':=g') (t':=t') (d':=d') u hok hg hch
end
abbrev XK:=Value→Option Addr→Hp→Prop
abbrev St:=List (Option V)
abbrev VK:=V→Hp→Prop
abbrev TE:=St→Hp→VK→Prop
abbrev TT:=St→Hp→(Bool→Hp→Prop)→Prop
abbrev TA:=St→Hp→(List V→Hp→Prop)→Prop
structure Ends where
  nx:St→Hp→Prop
  rt:VK
  bk:St→Hp→Prop:=fun _ _=>False
  ct:St→Hp→Prop:=fun _ _=>False
abbrev TS:=Ends→St→Hp→Prop
def EP (X:Cx) (pins:List (Addr × Obj)) (σ:St) (Q:VK) (u:Value) (s':Shared):Prop:=∃ v H',Inv X pins σ H' s'∧RelV v u∧Q v H'
def TP (X:Cx) (pins:List (Addr × Obj)) (σ:St) (Q:Bool→Hp→Prop) (b:Bool) (s':Shared):Prop:=∃ H',Inv X pins σ H' s'∧Q b H'
def AP (X:Cx) (pins:List (Addr × Obj)) (σ:St) (Q:List V→Hp→Prop) (us:List Value) (s':Shared):Prop:=∃ vs H',Inv X pins σ H' s'∧Vals vs us∧Q vs H'
def SP (X:Cx) (pins:List (Addr × Obj)) (D:Ends) (f:Flow) (s':Shared):Prop :=
  match f with
  | .next=>∃ σ' H',Inv X pins σ' H' s'∧D.nx σ' H'
  | .brk=>∃ σ' H',Inv X pins σ' H' s'∧D.bk σ' H'
  | .cont=>∃ σ' H',Inv X pins σ' H' s'∧D.ct σ' H'
  | .ret u=>∃ v σ' H',Inv X pins σ' H' s'∧RelV v u∧D.rt v H'
def PE (X:Cx) (e:Expr) (t:TE):Prop :=
  ∀ (pins:List (Addr × Obj)) (s:Shared) (σ:St) (H:Hp) (Q:VK),Inv X pins σ H s→t σ H Q→wpAny (model X.prog X.w) X.A (eval e X.env) (EP X pins σ Q) X.xe s
def PT (X:Cx) (e:Expr) (t:TT):Prop :=
  ∀ (pins:List (Addr × Obj)) (s:Shared) (σ:St) (H:Hp) (Q:Bool→Hp→Prop),Inv X pins σ H s→t σ H Q→wpAny (model X.prog X.w) X.A (isTrue e X.env (eval e X.env)) (TP X pins σ Q) X.xe s
def PW (X:Cx) (e:Expr) (t:TT):Prop :=
  ∀ (whole:Sem Value) (pins:List (Addr × Obj)) (s:Shared) (σ:St) (H:Hp) (Q:Bool→Hp→Prop),Inv X pins σ H s→t σ H Q→wpAny (model X.prog X.w) X.A (isTrue e X.env whole) (TP X pins σ Q) X.xe s
theorem PW.pt {X:Cx} {e:Expr} {t:TT} (h:PW X e t):PT X e t:=h _
def PA (X:Cx) (es:List Expr) (t:TA):Prop :=
  ∀ (pos:Pos) (pins:List (Addr × Obj)) (s:Shared) (σ:St) (H:Hp) (Q:List V→Hp→Prop),Inv X pins σ H s→t σ H Q→wpAny (model X.prog X.w) X.A (spliced (backTo pos (starEach es X.env))) (AP X pins σ Q) X.xe s
def PS (X:Cx) (st:Stmt) (t:TS):Prop :=
  ∀ (pins:List (Addr × Obj)) (s:Shared) (σ:St) (H:Hp) (D:Ends),Inv X pins σ H s→t D σ H→wpAny (model X.prog X.w) X.A (exec st X.env) (SP X pins D) X.xe s
def PSs (X:Cx) (st:List Stmt) (t:TS):Prop :=
  ∀ (pins:List (Addr × Obj)) (s:Shared) (σ:St) (H:Hp) (D:Ends),Inv X pins σ H s→t D σ H→wpAny (model X.prog X.w) X.A (execs st X.env) (SP X pins D) X.xe s
theorem thn {α:Type} {t:Sem α} {Q Q':α→Shared→Prop} {M:Model} {A:Around} {E:Value→Shared→Prop} {s:Shared} (h:wpAny M A t Q E s) (hQ:∀ a s,Q a s→Q' a s):wpAny M A t Q' E s:=wpAny_mono h hQ fun _ _ x=>x
end L2
namespace L2
open PySem PySem.Spec PyProof.Rows
section
variable {X : Cx}
def tVar (i:Nat):TE:=fun σ H Q=>∃ v,σ[i]?=some (some v)∧Q v H
def tC (v:V):TE:=fun _ H Q=>Q v H
theorem pe_var {i:Nat} {x:Str} {pos:Pos} (hN:X.N[i]?=some x) (hv:Vis X.env.scope x) (hd:(x == ("__debug__":Str))=false:=by decide) (hcd:(x == ("__classdict__":Str))=false:=by decide):PE X (.Name x pos) (tVar i):=by
  intro pins s σ H Q I h
  obtain ⟨v,e,h⟩:=h
  obtain ⟨m,hn,hl⟩:=I.loc
  obtain ⟨u,r,l⟩:=hl i x v hN e hv
  have fin:EP X pins σ Q u s:=⟨v,H,I,r,h⟩
  rcases l with ⟨hk,hm⟩ | ⟨hk,c,hc,hcell⟩
  · exact wpAny_Name (wpAny_loadName_local I.ok.kind hk hn hm fin) hd
  · rcases hk with hk | hk
    · exact wpAny_Name (wpAny_loadName_cell I.ok.kind hk hc hcell fin) hd
    · exact wpAny_Name (wpAny_loadName_free I.ok.kind hk hc hcell fin hcd) hd
theorem pe_int {i j pos}:PE X (.Constant (.int i) j pos) (tC (.int i)):=fun _ _ _ H _ I h=>wpAny_Constant_int ⟨.int i,H,I.tok _,⟨_,rfl⟩,h⟩
theorem pe_bl {b j pos}:PE X (.Constant (.bool b) j pos) (tC (.bl b)):=fun _ _ _ H _ I h=>Constant_bool ⟨.bl b,H,I,rfl,h⟩
theorem pe_non {j pos}:PE X (.Constant .none j pos) (tC .non):=fun _ _ _ H _ I h=>Constant_none ⟨.non,H,I,rfl,h⟩
theorem pe_str {x j pos}:PE X (.Constant (.str x) j pos) (tC (.str x)):=fun _ _ _ H _ I h=>Calls.Constant_str ⟨.str x,H,I.tok _,⟨_,rfl⟩,h⟩
def Gl (X:Cx) (x:Str):Prop:=X.env.kindOf x=some .globalImplicit
theorem ld_glob {E:Value→Shared→Prop} {pins:List (Addr × Obj)} {s:Shared} {σ:St} {H:Hp} {x:Str} {u:Value} {pos:Pos} {Q:Value→Shared→Prop} (I:Inv X pins σ H s) (hg:Gl X x) (hm:X.mg x=some u) (h:Q u s)
    (hd:(x == ("__debug__":Str))=false:=by decide):wpAny (model X.prog X.w) X.A (eval (.Name x pos) X.env) Q E s :=
  Calls.Name_function_global I.ok.kind hg (Calls.loadGlobal_global (by rw [I.ok.glob]; exact I.mod.glob.keeps I.bk) hm h) hd
theorem ld_blt {E:Value→Shared→Prop} {pins:List (Addr × Obj)} {s:Shared} {σ:St} {H:Hp} {x:Str} {u:Value} {pos:Pos} {Q:Value→Shared→Prop} (I:Inv X pins σ H s) (hg:Gl X x) (hm:X.mg x=none) (hv:bootBuiltins x=some u) (h:Q u s)
    (hn:x≠"__name__":=by decide) (hd:(x == ("__debug__":Str))=false:=by decide):wpAny (model X.prog X.w) X.A (eval (.Name x pos) X.env) Q E s:=by
  obtain ⟨mb,h1,h2⟩:=I.mod.blt
  exact Calls.Name_function_global I.ok.kind hg (Calls.loadGlobal_builtin (by rw [I.ok.glob]; exact I.mod.glob.keeps I.bk) hm (by rw [I.ok.blt]; exact h1.keeps I.bk) ((h2 x hn).trans hv) h) hd
theorem pe_glob {x:Str} {v:V} {u:Value} {pos:Pos} (hg:Gl X x) (hm:X.mg x=some u) (r:RelV v u) (hd:(x == ("__debug__":Str))=false:=by decide):PE X (.Name x pos) (tC v) :=
  fun _ _ _ H _ I h=>ld_glob I hg hm ⟨v,H,I,r,h⟩ hd
theorem pe_bltn {x:Str} {v:V} {u:Value} {pos:Pos} (hg:Gl X x) (hm:X.mg x=none) (hv:bootBuiltins x=some u) (r:RelV v u) (hn:x≠"__name__":=by decide) (hd:(x == ("__debug__":Str))=false:=by decide):PE X (.Name x pos) (tC v) :=
  fun _ _ _ H _ I h=>ld_blt I hg hm hv ⟨v,H,I,r,h⟩ hn hd
def t2I (ta tb:TE) (k:Int→Int→Hp→Prop):St→Hp→Prop:=fun σ H=>ta σ H fun x H1=>tb σ H1 fun y H2=>∃ i j,x=.int i∧y=.int j∧k i j H2
variable {a b : Expr} {ta tb : TE} {pos : Pos}
def PC (X:Cx) (op:CmpOp) (a b:Expr) (t:TE):Prop :=
  ∀ (pins:List (Addr × Obj)) (s:Shared) (σ:St) (H:Hp) (Q:VK),Inv X pins σ H s→t σ H Q →
    wpAny (model X.prog X.w) X.A (eval a X.env) (fun v s₁=>wpAny (model X.prog X.w) X.A (eval b X.env) (fun u s₂=>wpAny (model X.prog X.w) X.A (compareOp op v u) (EP X pins σ Q) X.xe s₂) X.xe s₁) X.xe s
theorem nobehind (b:Expr) {op:CmpOp} (h:op≠.In) (h2:op≠.NotIn):behindInMarks op b=false:=by
  have e1:(op == CmpOp.In)=false:=by cases op <;> first | rfl | exact absurd rfl h
  have e2:(op == CmpOp.NotIn)=false:=by cases op <;> first | rfl | exact absurd rfl h2
  cases b <;> simp [behindInMarks,e1,e2]
def tCmp (p:Int→Int→Bool) (ta tb:TE):TE:=fun σ H Q=>t2I ta tb (fun i j H2=>Q (.bl (p i j)) H2) σ H
abbrev tLt:TE→TE→TE:=tCmp fun i j=>decide (i < j)
abbrev tLe:TE→TE→TE:=tCmp fun i j=>decide (i≤j)
abbrev tGt:TE→TE→TE:=tCmp fun i j=>decide (j < i)
abbrev tGe:TE→TE→TE:=tCmp fun i j=>decide (j≤i)
abbrev tEqI:TE→TE→TE:=tCmp fun i j=>decide (i=j)
abbrev tNeI:TE→TE→TE:=tCmp fun i j=>!decide (i=j)
def tIsN (ta:TE):TE:=fun σ H Q=>ta σ H fun x H1=>Q (.bl (decide (x=.non))) H1
theorem RelV.none_iff {x:V} {v:Value} (r:RelV x v):(v == Value.none)=decide (x=.non):=by
  cases x with
  | non=>cases r; rfl
  | bl _=>cases r; rfl
  | int _=>obtain ⟨t,rfl⟩:=r; rfl
  | str _=>obtain ⟨t,rfl⟩:=r; rfl
  | byt _=>obtain ⟨t,rfl⟩:=r; rfl
  | flt _=>obtain ⟨t,rfl⟩:=r; rfl
  | ref _=>cases r; rfl
  | ty _=>cases r; rfl
theorem pc_isN {j pos'} (ha:PE X a ta):PC X .Is a (.Constant .none j pos') (tIsN ta):=by
  intro pins s σ H Q I h
  refine thn (ha pins s σ H _ I h) fun v s1 ⟨x,H1,I1,r1,q1⟩=>?_
  exact Constant_none (is_none_gen ⟨.bl _,H1,I1,by rw [r1.none_iff]; rfl,q1⟩)
def tB (t:TE):TT:=fun σ H Q=>t σ H fun x H1=>∃ c,x=.bl c∧Q c H1
theorem pe_cmp {op:CmpOp} {t:TE} (h:PC X op a b t) (h1:behindInMarks op b=false:=by first | exact nobehind _ (by decide) (by decide) | rfl):PE X (.Compare a [op] [b] pos) t:=fun pins s σ H Q I hw=>wpAny_Compare1 (h pins s σ H Q I hw) h1
theorem pt_cmp {op:CmpOp} {t:TE} (h:PC X op a b t) (h1:behindInMarks op b=false:=by first | exact nobehind _ (by decide) (by decide) | rfl):PT X (.Compare a [op] [b] pos) (tB t):=by
  intro pins s σ H Q I hw
  refine wpAny_isTrue_Compare1 (thn (h pins s σ H _ I hw) fun v s1 h1=>thn h1 fun u s2 h2=>thn h2 fun c s3 ⟨x,H1,I1,r1,q1⟩=>?_) h1
  obtain ⟨d,rfl,q⟩:=q1
  cases r1
  exact wpAny_truthy_bool ⟨H1,I1,q⟩
theorem pt_val {e:Expr} {t:TE} (h:PE X e t) (he:∀ whole,isTrue e X.env whole=(do let v ← whole; standAt e.pos; holding [v] (truthy v)):=by intro _; rfl):PT X e (tB t):=by
  intro pins s σ H Q I hw
  refine isTrue_plain (thn (h pins s σ H _ I hw) fun v s1 ⟨x,H1,I1,r1,q1⟩=>?_) (he _)
  obtain ⟨d,rfl,q⟩:=q1
  cases r1
  exact wpAny_truthy_bool ⟨H1,I1,q⟩
variable {tA tB' : TT} {rest : List Expr}
def tAnd (t u:TT):TT:=fun σ H Q=>t σ H fun c H1=>if c=true then u σ H1 Q else Q false H1
def tOr (t u:TT):TT:=fun σ H Q=>t σ H fun c H1=>if c=true then Q true H1 else u σ H1 Q
def tNot (t:TT):TT:=fun σ H Q=>t σ H fun c H1=>Q (!c) H1
theorem pw_and1 (ha:PT X a tA):PW X (.BoolOp .And [a] pos) tA:=by
  intro wh pins s σ H Q I h
  refine isTrue_and (thn (ha pins s σ H Q I h) fun c s1 e=>?_)
  cases c with
  | true=>exact isTrue_and_nil e
  | false=>exact e
theorem pw_or1 (ha:PT X a tA):PW X (.BoolOp .Or [a] pos) tA:=by
  intro wh pins s σ H Q I h
  refine isTrue_or (thn (ha pins s σ H Q I h) fun c s1 e=>?_)
  cases c with
  | false=>exact isTrue_or_nil e
  | true=>exact e
theorem pw_and (ha:PT X a tA) (hb:PW X (.BoolOp .And (b :: rest) pos) tB'):PW X (.BoolOp .And (a :: b :: rest) pos) (tAnd tA tB'):=by
  intro wh pins s σ H Q I h
  refine isTrue_and (thn (ha pins s σ H _ I h) fun c s1 ⟨H1,I1,q1⟩=>?_)
  cases c with
  | true=>exact hb wh pins s1 σ H1 Q I1 q1
  | false=>exact ⟨H1,I1,q1⟩
theorem pw_or (ha:PT X a tA) (hb:PW X (.BoolOp .Or (b :: rest) pos) tB'):PW X (.BoolOp .Or (a :: b :: rest) pos) (tOr tA tB'):=by
  intro wh pins s σ H Q I h
  refine isTrue_or (thn (ha pins s σ H _ I h) fun c s1 ⟨H1,I1,q1⟩=>?_)
  cases c with
  | true=>exact ⟨H1,I1,q1⟩
  | false=>exact hb wh pins s1 σ H1 Q I1 q1
theorem pt_not (ha:PT X a tA):PT X (.UnaryOp .Not a pos) (tNot tA):=by
  intro pins s σ H Q I h
  exact isTrue_not (ha pins s σ H (fun c H1=>Q (!c) H1) I h)
def tAndV (ta tb:TE):TE:=fun σ H Q=>ta σ H fun x H1=>∃ c,x=.bl c∧if c=true then tb σ H1 Q else Q (.bl false) H1
def tOrV (ta tb:TE):TE:=fun σ H Q=>ta σ H fun x H1=>∃ c,x=.bl c∧if c=true then Q (.bl true) H1 else tb σ H1 Q
def tNotV (ta:TE):TE:=fun σ H Q=>ta σ H fun x H1=>∃ c,x=.bl c∧Q (.bl (!c)) H1
theorem pe_one {op} {t:TE} (h:PE X a t):PE X (.BoolOp op [a] pos) t:=fun pins s σ H Q I hw=>BoolOp_one (h pins s σ H Q I hw)
theorem pe_and (ha:PE X a ta) (hb:PE X (.BoolOp .And (b :: rest) pos) tb):PE X (.BoolOp .And (a :: b :: rest) pos) (tAndV ta tb):=by
  intro pins s σ H Q I h
  refine BoolOp_and (thn (ha pins s σ H _ I h) fun v s1 ⟨x,H1,I1,r1,q1⟩=>?_)
  obtain ⟨c,rfl,q1⟩:=q1
  cases r1
  refine wpAny_truthy_bool ?_
  cases c with
  | true=>exact hb pins s1 σ H1 Q I1 q1
  | false=>exact ⟨.bl false,H1,I1,rfl,q1⟩
theorem pe_or (ha:PE X a ta) (hb:PE X (.BoolOp .Or (b :: rest) pos) tb):PE X (.BoolOp .Or (a :: b :: rest) pos) (tOrV ta tb):=by
  intro pins s σ H Q I h
  refine BoolOp_or (thn (ha pins s σ H _ I h) fun v s1 ⟨x,H1,I1,r1,q1⟩=>?_)
  obtain ⟨c,rfl,q1⟩:=q1
  cases r1
  refine wpAny_truthy_bool ?_
  cases c with
  | false=>exact hb pins s1 σ H1 Q I1 q1
  | true=>exact ⟨.bl true,H1,I1,rfl,q1⟩
theorem pe_not (ha:PE X a ta):PE X (.UnaryOp .Not a pos) (tNotV ta):=by
  intro pins s σ H Q I h
  refine UnaryOp_ (thn (ha pins s σ H _ I h) fun v s1 ⟨x,H1,I1,r1,q1⟩=>?_)
  obtain ⟨c,rfl,q1⟩:=q1
  cases r1
  exact not_of (wpAny_truthy_bool ⟨.bl (!c),H1,I1,rfl,q1⟩)
def tIf (t:TT) (ta tb:TE):TE:=fun σ H Q=>t σ H fun c H1=>if c=true then ta σ H1 Q else tb σ H1 Q
theorem pe_ifExp {c:Expr} (hc:PT X c tA) (ha:PE X a ta) (hb:PE X b tb):PE X (.IfExp c a b pos) (tIf tA ta tb):=by
  intro pins s σ H Q I h
  refine wpAny_IfExp (thn (hc pins s σ H _ I h) fun d s1 ⟨H1,I1,q1⟩=>?_)
  cases d with
  | true=>exact ha pins s1 σ H1 Q I1 q1
  | false=>exact hb pins s1 σ H1 Q I1 q1
end
end L2
namespace L2
open PySem PySem.Spec PyProof.Rows
def SqL (K:PySem.W.Frag) (H:Hp) (a:Addr) (xs:List V):Prop :=
  Rd H a (.lst xs) ∨
    ∃ (o:Obj) (its:Array Value) (n:Nat),K.lookup a=some o∧o.cls=.type "list"∧o.dict=none∧o.data=.seq its n∧its.size≤sizeLine∧Vals xs its.toList
def SqT (K:PySem.W.Frag) (H:Hp) (a:Addr) (xs:List V):Prop :=
  Rd H a (.tup xs) ∨
    ∃ (o:Obj) (its:Array Value) (n:Nat),K.lookup a=some o∧o.cls=.type "tuple"∧o.data=.seq its n∧its.size≤sizeLine∧Vals xs its.toList
def absV:Value→Option V
  | .none=>some .non
  | .bool b=>some (.bl b)
  | .int i _=>some (.int i)
  | .str x _=>some (.str x)
  | .bytes b _=>some (.byt b)
  | .float b _=>some (.flt b)
  | .ref a=>some (.ref a)
  | .type n=>some (.ty n)
  | _=>none
theorem RelV.abs {x:V} {u:Value} (r:RelV x u):absV u=some x:=by
  cases x with
  | non=>cases r; rfl
  | bl _=>cases r; rfl
  | int _=>obtain ⟨t,rfl⟩:=r; rfl
  | str _=>obtain ⟨t,rfl⟩:=r; rfl
  | byt _=>obtain ⟨t,rfl⟩:=r; rfl
  | flt _=>obtain ⟨t,rfl⟩:=r; rfl
  | ref _=>cases r; rfl
  | ty _=>cases r; rfl
theorem RelV.inj {x y:V} {u:Value} (r:RelV x u) (q:RelV y u):x=y:=Option.some.inj (r.abs.symm.trans q.abs)
theorem Vals.inj:∀ {xs ys:List V} {us:List Value},Vals xs us→Vals ys us→xs=ys
  | _,_,_,.nil,.nil=>rfl
  | _,_,_,.cons r t,.cons r' t'=>by rw [r.inj r',Vals.inj t t']
section
variable {X : Cx} {pins : List (Addr × Obj)} {σ : St} {H : Hp} {s : Shared} {a : Addr} {xs ys : List V}
theorem SqL.of {K:PySem.W.Frag} (h:H a=some (.lst xs)):SqL K H a xs:=.inl (.inl h)
theorem SqT.of {K:PySem.W.Frag} (h:H a=some (.tup xs)):SqT K H a xs:=.inl (.inl h)
theorem Inv.list (I:Inv X pins σ H s) (h:SqL X.K H a xs):∃ its:List Value,Vals xs its∧PlainL s.heap a its.toArray∧xs.length≤sizeLine:=by
  rcases h with h | ⟨o,its,n,hk,hc,hd,hs,hz,r⟩
  · obtain ⟨z,its,n,r,e⟩:=h.ok I.hok
    exact ⟨its,r,⟨_,n,e,rfl,rfl,rfl⟩,z⟩
  · refine ⟨its.toList,r,⟨o,n,I.kIn a o hk,hc,hd,by simpa using hs⟩,?_⟩
    have e:=r.length
    simp only [Array.length_toList] at e
    omega
theorem Inv.tuple (I:Inv X pins σ H s) (h:SqT X.K H a xs):∃ its:List Value,Vals xs its∧IsTup s.heap a its.toArray∧xs.length≤sizeLine:=by
  rcases h with h | ⟨o,its,n,hk,hc,hs,hz,r⟩
  · obtain ⟨z,its,r,p⟩:=h.ok I.hok
    exact ⟨its,r,p,z⟩
  · refine ⟨its.toList,r,⟨o,I.kIn a o hk,hc,n,by simpa using hs⟩,?_⟩
    have e:=r.length
    simp only [Array.length_toList] at e
    omega
theorem Inv.list_inj (I:Inv X pins σ H s) (h:SqL X.K H a xs) (h':SqL X.K H a ys):xs=ys:=by
  obtain ⟨its,r,⟨o,n,e,_,_,d⟩,_⟩:=I.list h
  obtain ⟨its',r',⟨o',n',e',_,_,d'⟩,_⟩:=I.list h'
  rw [e] at e'; cases e'
  rw [d] at d'
  injection d' with d1 _
  have:its=its':=by simpa using congrArg Array.toList d1
  subst this
  exact r.inj r'
end
abbrev Cx.wish (X:Cx) (E:Value→Shared→Prop):Cx:={ X with xe:=E }
abbrev Cx.nox (X:Cx):Cx:=X.wish fun _ _=>False
theorem Cx.Ok.wish {X:Cx} (ok:X.Ok) (E:Value→Shared→Prop):(X.wish E).Ok :=
  ⟨ok.mod,ok.kind,ok.glob,ok.blt,ok.above,ok.inj,ok.has,ok.cab,ok.hd,ok.frames,ok.stk,ok.exf,ok.bs,ok.bsz,ok.noex,ok.exfs,ok.funs,ok.frf⟩
theorem Cx.Ok.unwish {X:Cx} {E:Value→Shared→Prop} (ok:(X.wish E).Ok):X.Ok :=
  ⟨ok.mod,ok.kind,ok.glob,ok.blt,ok.above,ok.inj,ok.has,ok.cab,ok.hd,ok.frames,ok.stk,ok.exf,ok.bs,ok.bsz,ok.noex,ok.exfs,ok.funs,ok.frf⟩
section
variable {X : Cx} {pins : List (Addr × Obj)} {σ : St} {H : Hp} {s : Shared} {E : Value → Shared → Prop}
theorem Inv.wish (I:Inv X pins σ H s) (E:Value→Shared→Prop):Inv (X.wish E) pins σ H s:=⟨I.ok.wish E,I.os,I.bare,I.base,I.loc,I.cell,I.free,I.freeC,I.pin,I.hok,I.len,I.kno⟩
theorem Inv.unwish (I:Inv (X.wish E) pins σ H s):Inv X pins σ H s:=⟨I.ok.unwish,I.os,I.bare,I.base,I.loc,I.cell,I.free,I.freeC,I.pin,I.hok,I.len,I.kno⟩
theorem SP.unwish {D:Ends} {f:Flow} {s':Shared} (h:SP (X.wish E) pins D f s'):SP X pins D f s':=by
  cases f with
  | next=>obtain ⟨σ',H',I,q⟩:=h; exact ⟨σ',H',I.unwish,q⟩
  | brk=>obtain ⟨σ',H',I,q⟩:=h; exact ⟨σ',H',I.unwish,q⟩
  | cont=>obtain ⟨σ',H',I,q⟩:=h; exact ⟨σ',H',I.unwish,q⟩
  | ret u=>obtain ⟨v,σ',H',I,r,q⟩:=h; exact ⟨v,σ',H',I.unwish,r,q⟩
theorem PSs.nox {st:List Stmt} {t:TS} (h:PSs X.nox st t):PSs X st t:=fun pins s σ H D I hw =>
  wpAny_mono (h pins s σ H D (I.wish _) hw) (fun _ _ q=>q.unwish) fun _ _ z=>False.elim z
end
section
variable {X : Cx} {st : Stmt} {rest : List Stmt} {t u : TS} {e : Expr} {te : TE} {pos : Pos}
def tNext:TS:=fun D σ H=>D.nx σ H
def tSeq (t u:TS):TS:=fun D σ H=>t { D with nx:=u D } σ H
theorem pss_nil:PSs X [] tNext:=fun _ _ σ H _ I h=>wpAny_execs_nil ⟨σ,H,I,h⟩
theorem pss_cons (h1:PS X st t) (h2:PSs X rest u):PSs X (st :: rest) (tSeq t u):=by
  intro pins s σ H D I h
  refine wpAny_execs_cons (thn (h1 pins s σ H { D with nx:=u D } I h) fun f s1 q=>?_)
  cases f with
  | next =>
    obtain ⟨σ',H',I',q⟩:=q
    exact h2 pins s1 σ' H' D I' q
  | ret v=>exact q
  | brk=>exact q
  | cont=>exact q
theorem pss_one (h1:PS X st t):PSs X [st] t:=by
  intro pins s σ H D I h
  refine wpAny_execs_cons (thn (h1 pins s σ H D I h) fun f s1 q=>?_)
  cases f with
  | next=>exact wpAny_execs_nil q
  | ret v=>exact q
  | brk=>exact q
  | cont=>exact q
theorem Inv.quiet {pins:List (Addr × Obj)} {σ:St} {H:Hp} {s:Shared} (I:Inv X pins σ H s):interactive X.env=false:=by simp [interactive,I.ok.kind]
def tDrop (te:TE):TS:=fun D σ H=>te σ H fun _ H1=>D.nx σ H1
theorem ps_expr (he:PE X e te) (hs:swapsWith e none pos.line X.env=pure false:=by rfl):PS X (.Expr e pos) (tDrop te):=by
  intro pins s σ H D I h
  exact wpAny_Expr_any (thn (he pins s σ H _ I h) fun v s1 ⟨x,H1,I1,r1,q1⟩=>⟨σ,H1,I1,q1⟩) I.quiet hs
def tRet (te:TE):TS:=fun D σ H=>te σ H D.rt
theorem ps_ret (he:PE X e te):PS X (.Return (some e) pos) (tRet te):=by
  intro pins s σ H D I h
  exact wpAny_Return_some (thn (he pins s σ H _ I h) fun v s1 ⟨x,H1,I1,r1,q1⟩=>⟨x,σ,H1,I1,r1,q1⟩)
def tRetN:TS:=fun D _ H=>D.rt .non H
theorem ps_retN:PS X (.Return none pos) tRetN:=fun _ _ σ H _ I h=>wpAny_Return_none ⟨.non,σ,H,I,rfl,h⟩
def tIfS (c:TT) (t u:TS):TS:=fun D σ H=>c σ H fun b H1=>if b=true then t D σ H1 else u D σ H1
theorem ps_if {c:Expr} {a b:List Stmt} {tc:TT} (hc:PT X c tc) (ha:PSs X a t) (hb:PSs X b u):PS X (.If c a b pos) (tIfS tc t u):=by
  intro pins s σ H D I h
  refine wpAny_If (thn (hc pins s σ H _ I h) fun d s1 ⟨H1,I1,q1⟩=>?_)
  cases d with
  | true=>exact ha pins s1 σ H1 D I1 q1
  | false=>exact hb pins s1 σ H1 D I1 q1
end
abbrev TG:=V→St→Hp→(St→Hp→Prop)→Prop
abbrev TGs:=List V→St→Hp→(St→Hp→Prop)→Prop
def PG (X:Cx) (target:Expr) (t:TG):Prop :=
  ∀ (pins:List (Addr × Obj)) (s:Shared) (σ:St) (H:Hp) (v:V) (u:Value) (Q:St→Hp→Prop),Inv X pins σ H s→RelV v u→t v σ H Q →
    wpAny (model X.prog X.w) X.A (assign target X.env u) (fun _ s'=>∃ σ' H',Inv X pins σ' H' s'∧Q σ' H') X.xe s
def PGs (X:Cx) (ts:List Expr) (t:TGs):Prop :=
  ∀ (pins:List (Addr × Obj)) (s:Shared) (σ:St) (H:Hp) (vs:List V) (us:List Value) (Q:St→Hp→Prop),Inv X pins σ H s→Vals vs us→t vs σ H Q →
    wpAny (model X.prog X.w) X.A (assignInOrder ((assignEach ts X.env).map (·.2)) us) (fun _ s'=>∃ σ' H',Inv X pins σ' H' s'∧Q σ' H') X.xe s
abbrev TSet:=V→V→V→Hp→(Hp→Prop)→Prop
def PSet (X:Cx) (t:TSet):Prop :=
  ∀ (pins:List (Addr × Obj)) (s:Shared) (σ:St) (H:Hp) (o i v:V) (ov iv u:Value) (Q:Hp→Prop),Inv X pins σ H s→RelV o ov→RelV i iv→RelV v u→t o i v H Q →
    wpAny (model X.prog X.w) X.A (setItem ov iv u) (fun _ s'=>∃ H',Inv X pins σ H' s'∧Q H') X.xe s
abbrev TIp:=V→V→Hp→VK→Prop
section
variable {X : Cx} {pos : Pos}
def gName (i:Nat):TG:=fun v σ H Q=>Q (σ.set i (some v)) H
theorem pg_name {i:Nat} {x:Str} (hN:X.N.Nodup) (hi:X.N[i]?=some x) (hx:Loc X.env.scope x) (hf:X.fn x=true∨X.env.scope.names.lookup x=some .local:=by first | exact .inl rfl | exact .inr rfl | assumption) (hkn:X.kn i=Option.none:=by rfl):PG X (.Name x pos) (gName i):=by
  intro pins s σ H v u Q I r h
  exact wpAny_assign_Name (store_ok I hN hi hx r (fun s' I'=>⟨_,H,I',h⟩) hf hkn)
def gNil:TGs:=fun vs σ H Q=>vs=[]∧Q σ H
def gCons (t:TG) (u:TGs):TGs:=fun vs σ H Q=>∃ v r,vs=v :: r∧t v σ H fun σ' H'=>u r σ' H' Q
theorem pgs_nil:PGs X [] gNil:=by
  intro pins s σ H vs us Q I r h
  obtain ⟨e,h⟩:=h
  subst e
  cases r
  exact assignInOrder_nil ⟨σ,H,I,h⟩
theorem pgs_cons {e:Expr} {es:List Expr} {t:TG} {u:TGs} (h1:PG X e t) (h2:PGs X es u)
    (hs:(assignEach (e :: es) X.env).map (·.2)=assign e X.env :: (assignEach es X.env).map (·.2):=by rfl):PGs X (e :: es) (gCons t u):=by
  intro pins s σ H vs us Q I r h
  obtain ⟨v,vr,e1,h⟩:=h
  subst e1
  cases r with
  | cons r rr =>
    rw [hs]
    refine assignInOrder_cons (thn (h1 pins s σ H _ _ _ I r h) fun _ s1 ⟨σ1,H1,I1,q1⟩=>?_)
    exact h2 pins s1 σ1 H1 _ _ Q I1 rr q1
def gTup (K:PySem.W.Frag) (n:Nat) (t:TGs):TG:=fun v σ H Q=>∃ a xs,v=.ref a∧SqT K H a xs∧xs.length=n∧t xs σ H Q
theorem pg_tup {es:List Expr} {k:Nat} {t:TGs} {n:Nat} (hc:X.calm=true) (h:PGs X es t)
    (hn:(assignEach es X.env).length=n:=by rfl) (hst:(assignEach es X.env).findIdx? (·.1)=none:=by rfl):PG X (.Tuple es k pos) (gTup X.K n t):=by
  intro pins s σ H v u Q I r hw
  obtain ⟨a,xs,e1,hq,hl,hw⟩:=hw
  subst e1
  cases r
  obtain ⟨its,rv,ht,hz⟩:=I.tuple hq
  refine assign_Tuple_tuple (I.ok.hd hc) ht (by simp [hn,← hl,rv.length]) hst fun h' hx=>?_
  have I1:Inv X pins σ H { s with heap:=h' }:=I.kept (t':=s.toks) fun b o e=>hx b o (Nat.ne_of_lt (Heap.lt_size e)) e
  exact h pins _ σ H xs _ Q I1 (by simpa using rv) hw
def gSub (to ti:TE) (t:TSet):TG:=fun v σ H Q=>to σ H fun o H1=>ti σ H1 fun i H2=>t o i v H2 fun H3=>Q σ H3
theorem pg_sub {o i:Expr} {to ti:TE} {t:TSet} (ho:PE X o to) (hi:PE X i ti) (hs:PSet X t)
    (ha:∀ v,assign (.Subscript o i pos) X.env v=(do
      let ov ← holding [v] (eval o X.env)
      let iv ← holding [v,ov] (eval i X.env)
      standAt pos
      holding [v,ov,iv] (setItem ov iv v)
      release [v,ov,iv] []):=by intro _; rfl):PG X (.Subscript o i pos) (gSub to ti t):=by
  intro pins s σ H v u Q I r h
  rw [ha]
  refine wpAny_bind (wpAny_holding (thn (ho pins s σ H _ I h) fun ov s1 ⟨x,H1,I1,r1,q1⟩=>?_))
  refine wpAny_bind (wpAny_holding (thn (hi pins s1 σ H1 _ I1 q1) fun iv s2 ⟨y,H2,I2,r2,q2⟩=>?_))
  refine wpAny_bind (wpAny_standAt (wpAny_bind (wpAny_holding (thn (hs pins s2 σ H2 x y v ov iv u _ I2 r1 r2 r q2) fun _ s3 ⟨H3,I3,q3⟩=>?_))))
  exact wpAny_release ⟨σ,H3,I3,q3⟩
def tAsg (te:TE) (g:TG):TS:=fun D σ H=>te σ H fun x H1=>g x σ H1 D.nx
theorem ps_asg {tg e:Expr} {te:TE} {g:TG} (he:PE X e te) (hg:PG X tg g) (hs:swapsWithSole [tg] e pos.line X.env=pure false:=by rfl) (hw:swappedStores [tg] e X.env=pure none:=by rfl)
    (h1:(assignEach [tg] X.env).map (·.2)=[assign tg X.env]:=by rfl):PS X (.Assign [tg] e pos) (tAsg te g):=by
  intro pins s σ H D I h
  refine wpAny_Assign_stores (thn (he pins s σ H _ I h) fun v s1 ⟨x,H1,I1,r1,q1⟩=>?_) hs hw
  rw [h1]
  exact thn (hg pins s1 σ H1 x v _ I1 r1 q1) fun _ s2 q=>q
theorem ps_set {i:Nat} {x:Str} {e:Expr} {te:TE} {pos':Pos} (hN:X.N.Nodup) (hi:X.N[i]?=some x) (hx:Loc X.env.scope x) (he:PE X e te) (hs:swapsWith e (some (.Name x pos')) pos.line X.env=pure false:=by rfl) (hf:X.fn x=true∨X.env.scope.names.lookup x=some .local:=by first | exact .inl rfl | exact .inr rfl | assumption) (hkn:X.kn i=Option.none:=by rfl) :
    PS X (.Assign [.Name x pos'] e pos) (tAsg te (gName i)):=by
  intro pins s σ H D I h
  refine wpAny_Assign_Name (thn (he pins s σ H _ I h) fun v s1 ⟨y,H1,I1,r1,q1⟩=>?_) hs
  exact store_ok I1 hN hi hx r1 (fun s2 I2=>⟨_,H1,I2,q1⟩) hf hkn
end
section
variable {X : Cx} {pos : Pos}
def tWhile (c:TT) (tb:TS):TS:=fun D σ H=>∃ W:Nat→St→Hp→Prop,(∃ m,W m σ H)∧∀ m σ H,W m σ H →
  c σ H fun b H1=>if b=true then ∃ N:St→Hp→Prop,(∀ σ' H',N σ' H'→∃ m',m' < m∧W m' σ' H')∧tb { D with nx:=N,ct:=N,bk:=D.nx } σ H1 else D.nx σ H1
theorem ps_while {c:Expr} {body:List Stmt} {tc:TT} {tb:TS} (hp:PassesOwn (model X.prog X.w) X.A X.env X.xe) (hc:PT X c tc) (hb:PSs X body tb):PS X (.While c body [] pos) (tWhile tc tb):=by
  intro pins s σ H D I h
  obtain ⟨W,⟨m0,w0⟩,turn⟩:=h
  refine wpAny_While (codeAny_whileLoop (fun n s'=>∃ σ' H',Inv X pins σ' H' s'∧W n σ' H') ?_ m0 ⟨σ,H,I,w0⟩)
  rintro n s1 ⟨σ1,H1,I1,w1⟩
  refine wpAny_passesOwn hp (thn (hc pins s1 σ1 H1 _ I1 (turn n σ1 H1 w1)) fun b s2 ⟨H2,I2,q2⟩=>?_)
  cases b with
  | true =>
    obtain ⟨N,hN,q2⟩:=q2
    rw [if_pos rfl]
    refine wpAny_passesOwn hp (thn (hb pins s2 σ1 H2 _ I2 q2) fun f s3 q3=>?_)
    cases f with
    | next =>
      obtain ⟨σ3,H3,I3,n3⟩:=q3
      obtain ⟨m',hm,w3⟩:=hN σ3 H3 n3
      exact ⟨m',hm,σ3,H3,I3,w3⟩
    | cont =>
      obtain ⟨σ3,H3,I3,n3⟩:=q3
      obtain ⟨m',hm,w3⟩:=hN σ3 H3 n3
      exact ⟨m',hm,σ3,H3,I3,w3⟩
    | brk=>exact q3
    | ret v=>exact q3
  | false =>
    rw [if_neg Bool.false_ne_true]
    exact wpAny_execs_nil ⟨σ1,H2,I2,q2⟩
end
structure It where
  go:Nat→Hp→Prop
  yld:Nat→Hp→V→Hp→Prop
  stop:Nat→Hp→Prop
def FpOk (X:Cx) (pins:List (Addr × Obj)) (H:Hp) (b:Addr):Prop :=
  H b=none∧b≠X.env.locals∧b ∉ X.fs∧(b∈X.ex∨X.s₀.heap.objs.size≤b)∧(∀ x c,X.env.cells.lookup x=some c→c≠b)∧∀ p∈X.pn ++ pins,p.1≠b
theorem Inv.fpOk {X:Cx} {pins:List (Addr × Obj)} {σ:St} {H H':Hp} {s:Shared} {b:Addr} (I:Inv X pins σ H s) (hb:s.heap.objs.size≤b) (hn:H' b=none):FpOk X pins H' b:=by
  refine ⟨hn,Nat.ne_of_gt (Nat.lt_of_lt_of_le I.lt hb),I.nofs hb,.inr (Nat.le_trans I.sz hb),fun x c e z=>?_,fun p hp z=>?_⟩
  · obtain ⟨v,q⟩:=I.cell x c e
    exact absurd (Nat.lt_of_lt_of_le q.lt (by rw [z]; exact hb)) (Nat.lt_irrefl _)
  · exact absurd (Nat.lt_of_lt_of_le (Heap.lt_size (I.pin p hp).1) (by rw [z]; exact hb)) (Nat.lt_irrefl _)
structure Turn (P:Program) (w:World) (K:PySem.W.Frag) (tg:Expr) (J:It) (fp:List Addr) (it:Addr) (tn:Nat→Heap→Prop):Prop where
  mem:it∈fp
  obj:∀ i h,tn i h→∀ b∈fp,∃ o,h.get? b=some o∧∀ v,o.data≠.cell v
  keep:∀ i h h',tn i h→(∀ b∈fp,∀ o,h.get? b=some o→h'.get? b=some o)→tn i h'
  item:∀ (X:Cx),X.prog=P→X.w=w→X.K=K→X.calm=true→∀ (i:Nat) (pins:List (Addr × Obj)) (s:Shared) (σ:St) (H:Hp) (E:Value→Shared→Prop),Inv X pins σ H s→(∀ b∈fp,FpOk X pins H b)→tn i s.heap→J.go i H →
    wpAny (model P w) X.A (pyNext (.ref it)) (fun r s1=>∃ u,r=some u ∧
      wpAny (model P w) X.A (letOwnedTupleGo tg (.ref it) u) (fun _ s2=>∃ x H',Inv X pins σ H' s2∧RelV x u∧J.yld i H x H'∧tn (i + 1) s2.heap∧∀ b∈fp,H' b=none) E s1) E s
  done:∀ (X:Cx),X.prog=P→X.w=w→X.K=K→X.calm=true→∀ (i:Nat) (pins:List (Addr × Obj)) (s:Shared) (σ:St) (H:Hp) (E:Value→Shared→Prop),Inv X pins σ H s→(∀ b∈fp,FpOk X pins H b)→tn i s.heap→J.stop i H →
    wpAny (model P w) X.A (pyNext (.ref it)) (fun r s1=>r=none∧Inv X pins σ H s1) E s
  self:∀ (A:Around) (i:Nat) (s:Shared) (Q:Value→Shared→Prop) (E:Value→Shared→Prop),tn i s.heap→Q (.ref it) s→wpAny (model P w) A (pyIter (.ref it)) Q E s
abbrev TI:=St→Hp→(It→Hp→Prop)→Prop
def PIE (X:Cx) (pins:List (Addr × Obj)) (σ:St) (tg:Expr) (R:It→Hp→Prop) (itv:Value) (s2:Shared):Prop :=
  ∃ (it:Addr) (fp:List Addr) (tn:Nat→Heap→Prop) (J:It) (H':Hp),itv=.ref it∧Inv X pins σ H' s2∧Turn X.prog X.w X.K tg J fp it tn∧tn 0 s2.heap∧(∀ b∈fp,FpOk X pins H' b)∧R J H'
def PI (X:Cx) (tg iter:Expr) (wi:TI):Prop :=
  ∀ (pins:List (Addr × Obj)) (s:Shared) (σ:St) (H:Hp) (R:It→Hp→Prop),Inv X pins σ H s→wi σ H R →
    wpAny (model X.prog X.w) X.A (eval iter X.env) (fun v s1=>wpAny (model X.prog X.w) X.A (pyIter v) (PIE X pins σ tg R) X.xe s1) X.xe s
theorem go_of {M:Model} {A:Around} {E:Value→Shared→Prop} {s:Shared} {tg:Expr} {it:Addr} {u:Value} {o:Obj} {n:String} {vs:Array Value} {Q:Unit→Shared→Prop} (ho:s.heap.get? it=some o) (hc:o.cls=.type n) (hd:o.data=.fields vs)
    (hn:["enumerate","zip","dict_itemiterator","dict_reverseitemiterator","odict_iterator","itertools.zip_longest","itertools.pairwise"].contains n=false) (hQ:Q () s):wpAny M A (letOwnedTupleGo tg (.ref it) u) Q E s:=by
  unfold letOwnedTupleGo
  cases tg <;> first
    | exact wpAny_pure hQ
    | (cases u <;> first
        | exact wpAny_pure hQ
        | (refine wpAny_bind (wpAny_load ho ?_)
           rw [hc,hd]
           show wpAny M A (if (["enumerate","zip","dict_itemiterator","dict_reverseitemiterator","odict_iterator","itertools.zip_longest","itertools.pairwise"].contains n && vs[0]? == some (rawInt _))=true then _ else _) Q E s
           rw [if_neg (by intro h; rw [hn,Bool.false_and] at h; cases h)]
           exact wpAny_pure hQ))
def Itl (K:PySem.W.Frag) (a:Addr):It :=
  ⟨fun i H=>∃ xs x,SqL K H a xs∧xs[i]?=some x,fun i H x H'=>H'=H∧∀ xs,SqL K H a xs→xs[i]?=some x,fun i H=>∃ xs,SqL K H a xs∧xs.length≤i⟩
def Itr (lo:Int) (n:Nat):It:=⟨fun i _=>i < n,fun i H x H'=>H'=H∧x=.int (lo + i),fun i _=>n≤i⟩
theorem turn_list {P:Program} {w:World} {K:PySem.W.Frag} {tg:Expr} (a it:Addr):Turn P w K tg (Itl K a) [it] it (fun i h=>h.IsListIter it a i) where
  mem:=by simp
  obj:=fun i h st b hb=>by
    have e:b=it:=by simpa using hb
    subst e
    obtain ⟨o,e,c,d⟩:=st
    exact ⟨o,e,fun v z=>by rw [d] at z; cases z⟩
  keep:=fun i h h' st k=>st.at fun o e=>k it (by simp) o e
  item:=by
    intro X hP hw hK hc i pins s σ H E I hf st hg
    subst hP hw hK
    obtain ⟨xs,x,hq,hx⟩:=hg
    obtain ⟨its,rv,p,hz⟩:=I.list hq
    obtain ⟨u,hu,ru⟩:=rv.get hx
    obtain ⟨f0,f1,f2,f3,f4,f5⟩:=hf it (by simp)
    refine wpAny_pyNext_list_item st p.isList (x:=u) (by simpa using hu) fun h' st' sb=>?_
    have I1:Inv X pins σ H { s with heap:=h' }:=I.turned (t':=s.toks) (fun b o hb e=>(sb.2 b hb).trans e) f0 f1 f3 f4 f5
    obtain ⟨o,e,c,d⟩:=id st'
    exact ⟨u,rfl,go_of (s:={ s with heap:=h' }) e c d (by decide) ⟨x,H,I1,ru,⟨rfl,fun ys hy=>by rw [I.list_inj hy hq]; exact hx⟩,st',fun b hb=>(hf b hb).1⟩⟩
  done:=by
    intro X hP hw hK hc i pins s σ H E I hf st hg
    subst hP hw hK
    obtain ⟨xs,hq,hx⟩:=hg
    obtain ⟨its,rv,p,hz⟩:=I.list hq
    obtain ⟨f0,f1,f2,f3,f4,f5⟩:=hf it (by simp)
    have hl:=rv.length
    exact wpAny_pyNext_list_end (I.ok.hd hc) st p.isList (by simp; omega) fun h' eb=>⟨rfl,I.turned (t':=s.toks) (fun b o hb e=>eb b o hb e) f0 f1 f3 f4 f5⟩
  self:=fun _ _ _ _ _ st h=>wpAny_pyIter_listiter st h
theorem turn_range {P:Program} {w:World} {K:PySem.W.Frag} {tg:Expr} (it:Addr) (lo:Int) (n:Nat):Turn P w K tg (Itr lo n) [it] it (fun i h=>IsRangeIter h it (lo + (i:Nat) * 1) ((n:Int) - (i:Nat)) 1) where
  mem:=by simp
  obj:=fun i h st b hb=>by
    have e:b=it:=by simpa using hb
    subst e
    exact ⟨_,st,fun v z=>by
      have z':Data.fields _=Data.cell v:=z
      cases z'⟩
  keep:=fun i h h' st k=>k it (by simp) _ st
  item:=by
    intro X hP hw hK hc i pins s σ H E I hf st hg
    subst hP hw hK
    obtain ⟨f0,f1,f2,f3,f4,f5⟩:=hf it (by simp)
    have W:=Walks.range (prog:=X.prog) (w:=X.w) (I.ok.hd hc) it lo 1 n
    refine W.item i s _ _ hg st fun v h' tk hv st' kk=>?_
    obtain ⟨t,rfl⟩:=hv
    have I1:Inv X pins σ H { s with heap:=h',toks:=tk }:=I.turned (fun b o hb e=>kk b o (by simpa using hb) e) f0 f1 f3 f4 f5
    refine ⟨_,rfl,go_of (s:={ s with heap:=h',toks:=tk }) (n:="range_iterator") st' rfl rfl (by decide) ⟨.int (lo + i),H,I1,⟨t,?_⟩,⟨rfl,rfl⟩,st',fun b hb=>(hf b hb).1⟩⟩
    rw [Int.mul_one]
  done:=by
    intro X hP hw hK hc i pins s σ H E I hf st hg
    subst hP hw hK
    obtain ⟨f0,f1,f2,f3,f4,f5⟩:=hf it (by simp)
    exact wpAny_pyNext_range_end (I.ok.hd hc) st (by have:n≤i:=hg; omega) fun h' eb=>⟨rfl,I.turned (t':=s.toks) (fun b o hb e=>eb b o hb e) f0 f1 f3 f4 f5⟩
  self:=fun _ _ _ _ _ st h=>wpAny_pyIter_rangeiter st h
end L2
namespace L2
open PySem PySem.Spec PyProof.Rows
section
variable {X : Cx} {tg : Expr}
def iList (K:PySem.W.Frag) (tl:TE):TI:=fun σ H R=>tl σ H fun x H1=>∃ a,x=.ref a∧(∃ xs,SqL K H1 a xs)∧R (Itl K a) H1
theorem pi_list {l:Expr} {tl:TE} (hl:PE X l tl):PI X tg l (iList X.K tl):=by
  intro pins s σ H R I h
  refine thn (hl pins s σ H _ I h) fun v s1 ⟨x,H1,I1,r1,q1⟩=>?_
  obtain ⟨a,e,⟨xs,hq⟩,q⟩:=q1
  subst e
  cases r1
  obtain ⟨its,rv,p,hz⟩:=I1.list hq
  refine wpAny_pyIter_list p.isList ?_
  refine ⟨s1.heap.objs.size,[s1.heap.objs.size],_,_,H1,rfl,I1.kept (t':=s1.toks) fun b o e=>Heap.get?_push_of_some _ e,turn_list a _,⟨_,Heap.get?_push_size _ rfl,rfl,rfl⟩,fun b hb=>?_,q⟩
  have e:b=s1.heap.objs.size:=by simpa using hb
  subst e
  exact I1.fpOk (Nat.le_refl _) (I1.hok.fresh (Nat.le_refl _))
theorem range_it {pins:List (Addr × Obj)} {σ:St} {H:Hp} {s:Shared} {R:It→Hp→Prop} {E:Value→Shared→Prop} {lo hi:Int} {t u v:Tok} {tk:Nat} (I:Inv X pins σ H s) (h1:-(2 ^ 62)≤lo) (h2:lo < 2 ^ 62) (h3:-(2 ^ 62)≤hi) (h4:hi < 2 ^ 62)
    (q:R (Itr lo (hi - lo).toNat) H):wpAny (model X.prog X.w) X.A (pyIter (.ref s.heap.objs.size)) (PIE X pins σ tg R) E { s with heap:=s.heap.push { cls:=.type "range",data:=.fields #[.int lo t,.int hi u,.int 1 v] },toks:=tk }:=by
  refine wpAny_pyIter_range (IsRange.new ..) (small_one h1 h2 h3 h4) ?_
  have I1:Inv X pins σ H { s with heap:=s.heap.push { cls:=.type "range",data:=.fields #[.int lo t,.int hi u,.int 1 v] },toks:=tk }:=I.kept fun b o e=>Heap.get?_push_of_some _ e
  refine ⟨(s.heap.push { cls:=.type "range",data:=.fields #[.int lo t,.int hi u,.int 1 v] }).objs.size,[(s.heap.push { cls:=.type "range",data:=.fields #[.int lo t,.int hi u,.int 1 v] }).objs.size],_,_,H,rfl,
    I1.kept (t':=tk) fun b o e=>Heap.get?_push_of_some _ e,turn_range _ lo (hi - lo).toNat,?_,fun b hb=>?_,q⟩
  · have e1:lo + ((0:Nat):Int) * 1=lo:=by simp
    have e2:(((hi - lo).toNat:Nat):Int) - ((0:Nat):Int)=Builtin.Range.rangeSize lo hi 1:=by rw [rangeSize_one]; split <;> omega
    show IsRangeIter _ _ (lo + ((0:Nat):Int) * 1) ((((hi - lo).toNat:Nat):Int) - ((0:Nat):Int)) 1
    rw [e1,e2]
    exact Heap.get?_push_size _ rfl
  · have e:b=(s.heap.push { cls:=.type "range",data:=.fields #[.int lo t,.int hi u,.int 1 v] }).objs.size:=by simpa using hb
    subst e
    exact I1.fpOk (Nat.le_refl _) (I1.hok.fresh (Nat.le_refl _))
def iRng1 (ta:TA):TI:=fun σ H R=>ta σ H fun vs H1=>∃ j:Int,vs=[.int j]∧-(2 ^ 62)≤j∧j < 2 ^ 62∧R (Itr 0 j.toNat) H1
theorem pi_range1 {a:Expr} {ta:TA} {p pos:Pos} (hg:Gl X "range") (hm:X.mg "range"=none) (ha:PA X [a] ta) (hs:starEach [a] X.env=[(false,eval a X.env)]:=by rfl):PI X tg (.Call (.Name "range" p) [a] [] pos) (iRng1 ta):=by
  intro pins s σ H R I h
  refine Call_ (ld_blt I hg hm boot_range (PyProof.Rows.callWith_type1 (thn (ha pos pins s σ H _ I h) fun us s1 ⟨vs,H1,I1,r1,q1⟩=>?_) hs rfl))
  obtain ⟨j,e,q1,q2,q⟩:=q1
  subst e
  cases r1 with
  | cons r rr =>
    cases rr
    obtain ⟨t,rfl⟩:=r
    exact call_range_1 (range_it I1 (by omega) (by omega) q1 q2 (by simpa using q))
def tFor (wi:TI) (g:TG) (tb:TS):TS:=fun D σ H=>wi σ H fun J H1=>∃ W:Nat→Nat→St→Hp→Prop,(∃ m,W 0 m σ H1)∧∀ i m σ H,W i m σ H →
  (J.stop i H∧D.nx σ H)∨(J.go i H∧∃ N:St→Hp→Prop,(∀ σ' H',N σ' H'→∃ m',m' < m∧W (i + 1) m' σ' H')∧∀ x H',J.yld i H x H'→g x σ H' fun σ2 H2=>tb { D with nx:=N,ct:=N,bk:=D.nx } σ2 H2)
def pinsAt (fp:List Addr) (h:Heap):List (Addr × Obj):=fp.filterMap fun b=>(h.get? b).map fun o=>(b,o)
theorem mem_pinsAt {fp:List Addr} {h:Heap} {b:Addr} {o:Obj} (hb:b∈fp) (e:h.get? b=some o):(b,o)∈pinsAt fp h:=List.mem_filterMap.mpr ⟨b,hb,by rw [e]; rfl⟩
theorem of_pinsAt {fp:List Addr} {h:Heap} {p:Addr × Obj} (hp:p∈pinsAt fp h):p.1∈fp∧h.get? p.1=some p.2:=by
  obtain ⟨b,hb,e⟩:=List.mem_filterMap.mp hp
  cases q:h.get? b with
  | none=>rw [q] at e; cases e
  | some o =>
    rw [q] at e
    have e':(b,o)=p:=Option.some.inj e
    subst e'
    exact ⟨hb,q⟩
theorem Inv.pinned {pins:List (Addr × Obj)} {σ:St} {H:Hp} {s:Shared} {fp:List Addr} (I:Inv X pins σ H s) (hf:∀ b∈fp,FpOk X pins H b) (ho:∀ b∈fp,∃ o,s.heap.get? b=some o∧∀ v,o.data≠.cell v):Inv X (pins ++ pinsAt fp s.heap) σ H s :=
  I.pins_of fun p hp=>(List.mem_append.mp hp).elim (fun z=>I.pin p (List.mem_append_right _ z)) fun z=>by
    obtain ⟨hb,e⟩:=of_pinsAt z
    obtain ⟨f0,f1,f2,_⟩:=hf p.1 hb
    obtain ⟨o,e',d⟩:=ho p.1 hb
    rw [e] at e'; cases e'
    exact ⟨e,f0,f1,f2,d⟩
theorem Inv.unpinned {pins pl:List (Addr × Obj)} {σ:St} {H:Hp} {s:Shared} (I:Inv X (pins ++ pl) σ H s):Inv X pins σ H s:=I.pins_of fun p hp=>I.pin p (List.mem_append_right _ (List.mem_append_left _ hp))
theorem ps_for {iter:Expr} {body:List Stmt} {wi:TI} {g:TG} {tb:TS} {pos:Pos} (hp:PassesOwn (model X.prog X.w) X.A X.env X.xe) (hc:X.calm=true) (hi:PI X tg iter wi) (hg:PG X tg g) (hb:PSs X body tb)
    (hs:∀ x,foldedSetIterable iter X.env x=pure x:=by intro _; rfl):PS X (.For tg iter body [] pos) (tFor wi g tb):=by
  intro pins s σ H D I h
  refine wpAny_For (thn (hi pins s σ H _ I h) fun v s1 h1=>thn h1 fun itv s2 h2=>?_) hs
  obtain ⟨it,fp,tn,J,H2,e,I2,T,st2,f2,W,⟨m0,w0⟩,turn⟩:=h2
  subst e
  have stat:∀ {H':Hp},(∀ b∈fp,H' b=none)→∀ b∈fp,FpOk X pins H' b:=fun hn b hb=>⟨hn b hb,(f2 b hb).2⟩
  refine codeAny_forLoop_any (fun n s'=>∃ i σ' H',Inv X pins σ' H' s'∧tn i s'.heap∧(∀ b∈fp,H' b=none)∧W i n σ' H') ?_ m0 ⟨0,σ,H2,I2,st2,fun b hb=>(f2 b hb).1,w0⟩
  rintro n s3 ⟨i,σ3,H3,I3,st3,fr3,w3⟩
  rcases turn i n σ3 H3 w3 with ⟨stop,qn⟩ | ⟨go,N,hN,step⟩
  · refine wpAny_passesOwn hp (thn (T.done X rfl rfl rfl hc i pins s3 σ3 H3 X.xe I3 (stat fr3) st3 stop) fun r s4 ⟨hr,I4⟩=>?_)
    subst hr
    exact wpAny_execs_nil ⟨σ3,H3,I4,qn⟩
  · refine wpAny_passesOwn hp (thn (T.item X rfl rfl rfl hc i pins s3 σ3 H3 X.xe I3 (stat fr3) st3 go) fun r s4 ⟨u,hr,h4⟩=>?_)
    subst hr
    refine wpAny_passesOwn hp (thn h4 fun _ s5 ⟨x,H5,I5,r5,y5,st5,fr5⟩=>?_)
    have I5':=I5.pinned (stat fr5) (T.obj _ _ st5)
    refine wpAny_passesOwn hp (thn (hg _ s5 σ3 H5 x u _ I5' r5 (step x H5 y5)) fun _ s6 ⟨σ6,H6,I6,q6⟩=>?_)
    refine wpAny_passesOwn hp (thn (hb _ s6 σ6 H6 _ I6 q6) fun f s7 q7=>?_)
    have again:∀ {σ7:St} {H7:Hp},Inv X (pins ++ pinsAt fp s5.heap) σ7 H7 s7→N σ7 H7→∃ m,m < n∧∃ i σ' H',Inv X pins σ' H' s7∧tn i s7.heap∧(∀ b∈fp,H' b=none)∧W i m σ' H':=fun {σ7 H7} I7 n7=>by
      obtain ⟨m',hm,w7⟩:=hN σ7 H7 n7
      refine ⟨m',hm,i + 1,σ7,H7,I7.unpinned,T.keep _ _ _ st5 fun b hb o e=>(I7.pin (b,o) (List.mem_append_right _ (List.mem_append_right _ (mem_pinsAt hb e)))).1,fun b hb=>?_,w7⟩
      obtain ⟨o,e,d⟩:=T.obj _ _ st5 b hb
      exact (I7.pin (b,o) (List.mem_append_right _ (List.mem_append_right _ (mem_pinsAt hb e)))).2.1
    cases f with
    | next=>obtain ⟨σ7,H7,I7,n7⟩:=q7; exact again I7 n7
    | cont=>obtain ⟨σ7,H7,I7,n7⟩:=q7; exact again I7 n7
    | brk=>obtain ⟨σ7,H7,I7,q7⟩:=q7; exact ⟨σ7,H7,I7.unpinned,q7⟩
    | ret v=>obtain ⟨x7,σ7,H7,I7,r7,q7⟩:=q7; exact ⟨x7,σ7,H7,I7.unpinned,r7,q7⟩
end
theorem for_list {K:PySem.W.Frag} {a:Addr} {xs:List V} {g:TG} {tb:TS} {D:Ends} {σ:St} {H:Hp} (Pv:Nat→St→Hp→Prop) (h0:Pv 0 σ H) (hl:∀ i σ H,i≤xs.length→Pv i σ H→SqL K H a xs)
    (hs:∀ i x σ H,xs[i]?=some x→Pv i σ H→g x σ H fun σ2 H2=>tb { D with nx:=Pv (i + 1),ct:=Pv (i + 1),bk:=D.nx } σ2 H2) (hd:∀ σ H,Pv xs.length σ H→D.nx σ H) :
    ∃ W:Nat→Nat→St→Hp→Prop,(∃ m,W 0 m σ H)∧∀ i m σ H,W i m σ H →
      ((Itl K a).stop i H∧D.nx σ H)∨((Itl K a).go i H∧∃ N:St→Hp→Prop,(∀ σ' H',N σ' H'→∃ m',m' < m∧W (i + 1) m' σ' H')∧∀ x H',(Itl K a).yld i H x H'→g x σ H' fun σ2 H2=>tb { D with nx:=N,ct:=N,bk:=D.nx } σ2 H2):=by
  refine ⟨fun i m σ H=>m=xs.length - i∧i≤xs.length∧Pv i σ H,⟨xs.length,by simp,Nat.zero_le _,h0⟩,?_⟩
  rintro i m σ H ⟨rfl,hi,p⟩
  have q:=hl i σ H hi p
  by_cases hlt:i < xs.length
  · refine .inr ⟨⟨xs,xs[i],q,by simp [hlt]⟩,Pv (i + 1),fun σ' H' p'=>⟨xs.length - (i + 1),by omega,rfl,hlt,p'⟩,fun x H' y=>?_⟩
    obtain ⟨e,y⟩:=y
    subst e
    exact hs i x σ _ (y xs q) p
  · have e:i=xs.length:=by omega
    subst e
    exact .inl ⟨⟨xs,q,Nat.le_refl _⟩,hd σ H p⟩
theorem for_range {lo:Int} {n:Nat} {g:TG} {tb:TS} {D:Ends} {σ:St} {H:Hp} (Pv:Nat→St→Hp→Prop) (h0:Pv 0 σ H)
    (hs:∀ i σ H,i < n→Pv i σ H→g (.int (lo + i)) σ H fun σ2 H2=>tb { D with nx:=Pv (i + 1),ct:=Pv (i + 1),bk:=D.nx } σ2 H2) (hd:∀ σ H,Pv n σ H→D.nx σ H) :
    ∃ W:Nat→Nat→St→Hp→Prop,(∃ m,W 0 m σ H)∧∀ i m σ H,W i m σ H →
      ((Itr lo n).stop i H∧D.nx σ H)∨((Itr lo n).go i H∧∃ N:St→Hp→Prop,(∀ σ' H',N σ' H'→∃ m',m' < m∧W (i + 1) m' σ' H')∧∀ x H',(Itr lo n).yld i H x H'→g x σ H' fun σ2 H2=>tb { D with nx:=N,ct:=N,bk:=D.nx } σ2 H2):=by
  refine ⟨fun i m σ H=>m=n - i∧i≤n∧Pv i σ H,⟨n,by simp,Nat.zero_le _,h0⟩,?_⟩
  rintro i m σ H ⟨rfl,hi,p⟩
  by_cases hlt:i < n
  · refine .inr ⟨hlt,Pv (i + 1),fun σ' H' p'=>⟨n - (i + 1),by omega,rfl,hlt,p'⟩,fun x H' y=>?_⟩
    obtain ⟨e,y⟩:=y
    subst e y
    exact hs i σ _ hlt p
  · have e:i=n:=by omega
    subst e
    exact .inl ⟨Nat.le_refl _,hd σ H p⟩
end L2
namespace L2
open PySem PySem.Spec PyProof.Rows
abbrev R2:=V→V→Hp→VK→Prop
def OpR (X:Cx) (f:Value→Value→Sem Value) (r:R2):Prop :=
  ∀ (pins:List (Addr × Obj)) (s:Shared) (σ:St) (H:Hp) (x y:V) (v u:Value) (Q:VK),Inv X pins σ H s→RelV x v→RelV y u→r x y H Q →
    wpAny (model X.prog X.w) X.A (f v u) (EP X pins σ Q) X.xe s
def UnR (X:Cx) (f:Value→Sem Value) (r:V→Hp→VK→Prop):Prop :=
  ∀ (pins:List (Addr × Obj)) (s:Shared) (σ:St) (H:Hp) (x:V) (v:Value) (Q:VK),Inv X pins σ H s→RelV x v→r x H Q →
    wpAny (model X.prog X.w) X.A (f v) (EP X pins σ Q) X.xe s
def CallR (X:Cx) (f:Value) (r:List V→Hp→VK→Prop):Prop :=
  ∀ (pins:List (Addr × Obj)) (s:Shared) (σ:St) (H:Hp) (xs:List V) (us:List Value) (Q:VK),Inv X pins σ H s→Vals xs us→r xs H Q →
    wpAny (model X.prog X.w) X.A (call f us) (EP X pins σ Q) X.xe s
def TruR (X:Cx) (r:V→Hp→(Bool→Hp→Prop)→Prop):Prop :=
  ∀ (pins:List (Addr × Obj)) (s:Shared) (σ:St) (H:Hp) (x:V) (v:Value) (Q:Bool→Hp→Prop),Inv X pins σ H s→RelV x v→r x H Q →
    wpAny (model X.prog X.w) X.A (truthy v) (TP X pins σ Q) X.xe s
def tOp (r:R2) (ta tb:TE):TE:=fun σ H Q=>ta σ H fun x H1=>tb σ H1 fun y H2=>r x y H2 Q
def tUn (r:V→Hp→VK→Prop) (ta:TE):TE:=fun σ H Q=>ta σ H fun x H1=>r x H1 Q
def rI (C:Int→Int→Prop) (g:Int→Int→V):R2:=fun x y H Q=>∃ i j,x=.int i∧y=.int j∧C i j∧Q (g i j) H
def rI0 (g:Int→Int→V):R2:=fun x y H Q=>∃ i j,x=.int i∧y=.int j∧Q (g i j) H
def rU (g:Int→V):V→Hp→VK→Prop:=fun x H Q=>∃ i,x=.int i∧Q (g i) H
section
variable {X : Cx} {a b c : Expr} {ta tb tc : TE} {pos : Pos}
theorem binT (ha:PE X a ta) (hb:PE X b tb) {pins:List (Addr × Obj)} {s:Shared} {σ:St} {H:Hp} {R:V→V→Hp→Prop} (I:Inv X pins σ H s)
    (h:ta σ H fun x H1=>tb σ H1 fun y H2=>R x y H2) {Q:Value→Shared→Prop} {f:Value→Value→Sem Value}
    (hf:∀ v u s2 x y H2,Inv X pins σ H2 s2→RelV x v→RelV y u→R x y H2→wpAny (model X.prog X.w) X.A (f v u) Q X.xe s2) :
    wpAny (model X.prog X.w) X.A (eval a X.env) (fun v s₁=>wpAny (model X.prog X.w) X.A (eval b X.env) (fun u s₂=>wpAny (model X.prog X.w) X.A (f v u) Q X.xe s₂) X.xe s₁) X.xe s:=by
  refine thn (ha pins s σ H _ I h) fun v s1 ⟨x,H1,I1,r1,q1⟩=>?_
  refine thn (hb pins s1 σ H1 _ I1 q1) fun u s2 ⟨y,H2,I2,r2,q2⟩=>?_
  exact hf v u s2 x y H2 I2 r1 r2 q2
theorem pe_op {op:Operator} {r:R2} (ho:OpR X (binaryOp op) r) (ha:PE X a ta) (hb:PE X b tb):PE X (.BinOp a op b pos) (tOp r ta tb):=by
  intro pins s σ H Q I h
  exact wpAny_BinOp (binT ha hb I h fun v u s2 x y H2 I2 rx ry q=>ho pins s2 σ H2 x y v u Q I2 rx ry q)
theorem pe_un {op:UnaryOp} {r:V→Hp→VK→Prop} (ho:UnR X (unaryOp op) r) (ha:PE X a ta):PE X (.UnaryOp op a pos) (tUn r ta):=by
  intro pins s σ H Q I h
  exact UnaryOp_ (thn (ha pins s σ H _ I h) fun v s1 ⟨x,H1,I1,r1,q1⟩=>ho pins s1 σ H1 x v Q I1 r1 q1)
theorem opI {f:Value→Value→Sem Value} {C:Int→Int→Prop} {g:Int→Int→Int}
    (rule:∀ (i j:Int) (t u:Tok) (s:Shared) (Q:Value→Shared→Prop) (E:Value→Shared→Prop),C i j→Q (.int (g i j) s.toks) { s with toks:=s.toks + 1 }→wpAny (model X.prog X.w) X.A (f (.int i t) (.int j u)) Q E s) :
    OpR X f (rI C fun i j=>.int (g i j)):=by
  intro pins s σ H x y v u Q I rx ry h
  obtain ⟨i,j,rfl,rfl,hc,q⟩:=h
  obtain ⟨t,rfl⟩:=rx
  obtain ⟨t',rfl⟩:=ry
  exact rule i j t t' s _ _ hc ⟨.int (g i j),H,I.tok _,⟨_,rfl⟩,q⟩
theorem opI0 {f:Value→Value→Sem Value} {g:Int→Int→Int}
    (rule:∀ (i j:Int) (t u:Tok) (s:Shared) (Q:Value→Shared→Prop) (E:Value→Shared→Prop),Q (.int (g i j) s.toks) { s with toks:=s.toks + 1 }→wpAny (model X.prog X.w) X.A (f (.int i t) (.int j u)) Q E s) :
    OpR X f (rI0 fun i j=>.int (g i j)):=by
  intro pins s σ H x y v u Q I rx ry h
  obtain ⟨i,j,rfl,rfl,q⟩:=h
  obtain ⟨t,rfl⟩:=rx
  obtain ⟨t',rfl⟩:=ry
  exact rule i j t t' s _ _ ⟨.int (g i j),H,I.tok _,⟨_,rfl⟩,q⟩
theorem opB0 {f:Value→Value→Sem Value} {g:Int→Int→Bool}
    (rule:∀ (i j:Int) (t u:Tok) (s:Shared) (Q:Value→Shared→Prop) (E:Value→Shared→Prop),Q (.bool (g i j)) s→wpAny (model X.prog X.w) X.A (f (.int i t) (.int j u)) Q E s) :
    OpR X f (rI0 fun i j=>.bl (g i j)):=by
  intro pins s σ H x y v u Q I rx ry h
  obtain ⟨i,j,rfl,rfl,q⟩:=h
  obtain ⟨t,rfl⟩:=rx
  obtain ⟨t',rfl⟩:=ry
  exact rule i j t t' s _ _ ⟨.bl (g i j),H,I,rfl,q⟩
def CPow (i j:Int):Prop:=0≤j∧j≤1000000∧i.natAbs < 2 ^ 64
theorem two_pow_nn (k:Nat):(0:Int)≤2 ^ k:=by
  rw [two_pow_cast]
  exact Int.natCast_nonneg _
theorem op_add:OpR X (binaryOp .Add) (rI0 fun i j=>.int (i + j)):=opI0 fun _ _ _ _ _ _ _ q=>add_int q
theorem op_sub:OpR X (binaryOp .Sub) (rI0 fun i j=>.int (i - j)):=opI0 fun _ _ _ _ _ _ _ q=>sub_int q
theorem op_mod:OpR X (binaryOp .Mod) (rI (fun _ j=>0 < j) fun i j=>.int (i % j)):=opI fun i j _ _ _ _ _ hc q=>by
  have h1:(0:Int) < j:=hc
  exact mod_int' (by omega) (by rw [Int.fmod_eq_emod_of_nonneg i (by omega)]; exact q)
theorem op_pow:OpR X (binaryOp .Pow) (rI CPow fun i j=>.int (i ^ j.toNat)):=opI fun _ _ _ _ _ _ _ hc q=>pow_int_small hc.1 hc.2.1 hc.2.2 q
theorem op_shl:OpR X (binaryOp .LShift) (rI CPow fun i j=>.int (i * 2 ^ j.toNat)):=opI fun _ _ _ _ _ _ _ hc q=>lshift_int_small hc.1 hc.2.1 hc.2.2 q
theorem op_shr:OpR X (binaryOp .RShift) (rI (fun _ j=>0≤j) fun i j=>.int (i / 2 ^ j.toNat)):=opI fun i j _ _ _ _ _ hc q =>
  rshift_int hc (by rw [Int.fdiv_eq_ediv_of_nonneg i (two_pow_nn _)]; exact q)
theorem op_and:OpR X (binaryOp .BitAnd) (rI0 fun i j=>.int (Builtin.bitAnd i j)):=opI0 fun _ _ _ _ _ _ _ q=>and_int q
theorem op_or:OpR X (binaryOp .BitOr) (rI0 fun i j=>.int (Builtin.bitOr i j)):=opI0 fun _ _ _ _ _ _ _ q=>or_int q
theorem unI {f:Value→Sem Value} {g:Int→Int}
    (rule:∀ (i:Int) (t:Tok) (s:Shared) (Q:Value→Shared→Prop) (E:Value→Shared→Prop),Q (.int (g i) s.toks) { s with toks:=s.toks + 1 }→wpAny (model X.prog X.w) X.A (f (.int i t)) Q E s) :
    UnR X f (rU fun i=>.int (g i)):=by
  intro pins s σ H x v Q I rx h
  obtain ⟨i,rfl,q⟩:=h
  obtain ⟨t,rfl⟩:=rx
  exact rule i t s _ _ ⟨.int (g i),H,I.tok _,⟨_,rfl⟩,q⟩
theorem un_neg:UnR X (unaryOp .USub) (rU fun i=>.int (-i)):=unI fun _ _ _ _ _ q=>neg_int q
end
def scal:V→V→Bool
  | .non,.non=>true | .non,.int _=>true | .int _,.non=>true | .non,.bl _=>true | .bl _,.non=>true | .non,.str _=>true | .str _,.non=>true
  | .int _,.int _=>true | .bl _,.bl _=>true | .str _,.str _=>true | .byt _,.byt _=>true
  | .int _,.str _=>true | .str _,.int _=>true | .bl _,.str _=>true | .str _,.bl _=>true
  | _,_=>false
def rEq:R2:=fun x y H Q=>scal x y=true∧Q (.bl (decide (x=y))) H
def rNe:R2:=fun x y H Q=>scal x y=true∧Q (.bl (!decide (x=y))) H
theorem dec_int {i j:Int}:decide (V.int i=V.int j)=(i == j):=by
  rw [Bool.eq_iff_iff]
  simp
theorem dec_bl {i j:Bool}:decide (V.bl i=V.bl j)=(i == j):=by
  rw [Bool.eq_iff_iff]
  simp
theorem dec_str {i j:Str}:decide (V.str i=V.str j)=(i == j):=by
  rw [Bool.eq_iff_iff]
  simp
theorem dec_byt {i j:Array UInt8}:decide (V.byt i=V.byt j)=(i.toList == j.toList):=by
  rw [Bool.eq_iff_iff]
  cases i
  cases j
  simp
section
variable {X : Cx} {a b c : Expr} {ta tb tc : TE} {pos : Pos}
theorem fin_bl {pins:List (Addr × Obj)} {σ:St} {H:Hp} {s:Shared} {Q:VK} {k k':Bool} (I:Inv X pins σ H s) (q:Q (.bl k) H) (e:k=k'):EP X pins σ Q (.bool k') s:=by
  subst e
  exact ⟨.bl k,H,I,rfl,q⟩
theorem op_eq:OpR X (compareOp .Eq) rEq:=by
  intro pins s σ H x y v u Q I rx ry h
  obtain ⟨hs,q⟩:=h
  cases x with
  | non =>
    cases rx
    cases y with
    | non=>cases ry; exact PySem.EqNone.eq_none_none (fin_bl I q (by simp))
    | bl j=>cases ry; exact PySem.EqNone.eq_none_bool (fin_bl I q (by simp))
    | int j=>obtain ⟨t',rfl⟩:=ry; exact PySem.EqNone.eq_none_int (fin_bl I q (by simp))
    | str j=>obtain ⟨t',rfl⟩:=ry; exact PySem.EqNone.eq_none_str (fin_bl I q (by simp))
    | _=>exact absurd (show false=true from hs) Bool.false_ne_true
  | bl i =>
    cases rx
    cases y with
    | non=>cases ry; exact PySem.EqNone.eq_bool_none (fin_bl I q (by simp))
    | bl j=>cases ry; exact eq_bool (fin_bl I q dec_bl)
    | str j=>obtain ⟨t',rfl⟩:=ry; exact PySem.EqMixed.eq_bool_str (fin_bl I q (by simp))
    | _=>exact absurd (show false=true from hs) Bool.false_ne_true
  | int i =>
    obtain ⟨t,rfl⟩:=rx
    cases y with
    | non=>cases ry; exact PySem.EqNone.eq_int_none (fin_bl I q (by simp))
    | int j=>obtain ⟨t',rfl⟩:=ry; exact eq_int (fin_bl I q dec_int)
    | str j=>obtain ⟨t',rfl⟩:=ry; exact PySem.EqMixed.eq_int_str (fin_bl I q (by simp))
    | _=>exact absurd (show false=true from hs) Bool.false_ne_true
  | str i =>
    obtain ⟨t,rfl⟩:=rx
    cases y with
    | non=>cases ry; exact PySem.EqNone.eq_str_none (fin_bl I q (by simp))
    | bl j=>cases ry; exact PySem.EqMixed.eq_str_bool (fin_bl I q (by simp))
    | int j=>obtain ⟨t',rfl⟩:=ry; exact PySem.EqMixed.eq_str_int (fin_bl I q (by simp))
    | str j=>obtain ⟨t',rfl⟩:=ry; exact eq_str (fin_bl I q dec_str)
    | _=>exact absurd (show false=true from hs) Bool.false_ne_true
  | byt i =>
    obtain ⟨t,rfl⟩:=rx
    cases y with
    | byt j=>obtain ⟨t',rfl⟩:=ry; exact PySem.W.eq_bytes (fin_bl I q dec_byt)
    | _=>exact absurd (show false=true from hs) Bool.false_ne_true
  | _=>cases y <;> exact absurd (show false=true from hs) Bool.false_ne_true
theorem op_ne:OpR X (compareOp .NotEq) rNe:=by
  intro pins s σ H x y v u Q I rx ry h
  obtain ⟨hs,q⟩:=h
  cases x with
  | non =>
    cases rx
    cases y with
    | non=>cases ry; exact PySem.EqNone.ne_none_none (fin_bl I q (by simp))
    | bl j=>cases ry; exact PySem.EqNone.ne_none_bool (fin_bl I q (by simp))
    | int j=>obtain ⟨t',rfl⟩:=ry; exact PySem.EqNone.ne_none_int (fin_bl I q (by simp))
    | str j=>obtain ⟨t',rfl⟩:=ry; exact PySem.EqNone.ne_none_str (fin_bl I q (by simp))
    | _=>exact absurd (show false=true from hs) Bool.false_ne_true
  | bl i =>
    cases rx
    cases y with
    | non=>cases ry; exact PySem.EqNone.ne_bool_none (fin_bl I q (by simp))
    | bl j=>cases ry; exact ne_bool (fin_bl I q (congrArg not dec_bl))
    | str j=>obtain ⟨t',rfl⟩:=ry; exact PySem.EqMixed.ne_bool_str (fin_bl I q (by simp))
    | _=>exact absurd (show false=true from hs) Bool.false_ne_true
  | int i =>
    obtain ⟨t,rfl⟩:=rx
    cases y with
    | non=>cases ry; exact PySem.EqNone.ne_int_none (fin_bl I q (by simp))
    | int j=>obtain ⟨t',rfl⟩:=ry; exact ne_int (fin_bl I q (congrArg not dec_int))
    | str j=>obtain ⟨t',rfl⟩:=ry; exact PySem.EqMixed.ne_int_str (fin_bl I q (by simp))
    | _=>exact absurd (show false=true from hs) Bool.false_ne_true
  | str i =>
    obtain ⟨t,rfl⟩:=rx
    cases y with
    | non=>cases ry; exact PySem.EqNone.ne_str_none (fin_bl I q (by simp))
    | bl j=>cases ry; exact PySem.EqMixed.ne_str_bool (fin_bl I q (by simp))
    | int j=>obtain ⟨t',rfl⟩:=ry; exact PySem.EqMixed.ne_str_int (fin_bl I q (by simp))
    | str j=>obtain ⟨t',rfl⟩:=ry; exact ne_str (fin_bl I q (congrArg not dec_str))
    | _=>exact absurd (show false=true from hs) Bool.false_ne_true
  | byt i =>
    obtain ⟨t,rfl⟩:=rx
    cases y with
    | byt j=>obtain ⟨t',rfl⟩:=ry; exact PySem.W.ne_bytes (fin_bl I q (congrArg not dec_byt))
    | _=>exact absurd (show false=true from hs) Bool.false_ne_true
  | _=>cases y <;> exact absurd (show false=true from hs) Bool.false_ne_true
theorem op_lt:OpR X (compareOp .Lt) (rI0 fun i j=>.bl (decide (i < j))):=opB0 fun _ _ _ _ _ _ _ q=>lt_int q
theorem op_le:OpR X (compareOp .LtE) (rI0 fun i j=>.bl (decide (i≤j))):=opB0 fun _ _ _ _ _ _ _ q=>le_int q
theorem op_gt:OpR X (compareOp .Gt) (rI0 fun i j=>.bl (decide (j < i))):=opB0 fun _ _ _ _ _ _ _ q=>gt_int q
theorem op_ge:OpR X (compareOp .GtE) (rI0 fun i j=>.bl (decide (j≤i))):=opB0 fun _ _ _ _ _ _ _ q=>ge_int q
theorem OpR.or {f:Value→Value→Sem Value} {r r':R2} (h:OpR X f r) (h':OpR X f r'):OpR X f (fun x y H Q=>r x y H Q∨r' x y H Q):=by
  intro pins s σ H x y v u Q I rx ry q
  rcases q with q | q
  · exact h pins s σ H x y v u Q I rx ry q
  · exact h' pins s σ H x y v u Q I rx ry q
theorem nomark (b:Expr) {op:CmpOp} (h:op≠.In:=by decide) (h2:op≠.NotIn:=by decide):behindInMarks op b=false:=by
  have e1:(op == CmpOp.In)=false:=by cases op <;> first | rfl | exact absurd rfl h
  have e2:(op == CmpOp.NotIn)=false:=by cases op <;> first | rfl | exact absurd rfl h2
  cases b <;> simp [behindInMarks,e1,e2]
theorem pe_cmpR {op:CmpOp} {r:R2} (ho:OpR X (compareOp op) r) (ha:PE X a ta) (hb:PE X b tb) (hm:behindInMarks op b=false):PE X (.Compare a [op] [b] pos) (tOp r ta tb):=by
  intro pins s σ H Q I h
  exact wpAny_Compare1 (binT ha hb I h fun v u s2 x y H2 I2 rx ry q=>ho pins s2 σ H2 x y v u Q I2 rx ry q) hm
def tTest (t:TE):TT:=fun σ H Q=>t σ H fun x H'=>∃ k,x=.bl k∧Q k H'
theorem pt_cmpR {op:CmpOp} {r:R2} (ho:OpR X (compareOp op) r) (ha:PE X a ta) (hb:PE X b tb) (hm:behindInMarks op b=false):PT X (.Compare a [op] [b] pos) (tTest (tOp r ta tb)):=by
  intro pins s σ H Q I h
  refine wpAny_isTrue_Compare1 (thn (ha pins s σ H _ I h) fun v s1 ⟨x,H1,I1,r1,q1⟩=>thn (hb pins s1 σ H1 _ I1 q1) fun u s2 ⟨y,H2,I2,r2,q2⟩ =>
    thn (ho pins s2 σ H2 x y v u _ I2 r1 r2 q2) fun c s3 ⟨z,H3,I3,r3,k,e,q3⟩=>?_) hm
  subst e
  cases r3
  exact wpAny_truthy_bool ⟨H3,I3,q3⟩
def tChain (r r':R2) (ta tb tc:TE):TE:=fun σ H Q=>ta σ H fun x H1=>tb σ H1 fun y H2=>r x y H2 fun z H3=>∃ k,z=.bl k ∧
  (if k=true then tc σ H3 fun w' H4=>r' y w' H4 Q else Q (.bl false) H3)
theorem pe_chain {op op':CmpOp} {r r':R2} (ho:OpR X (compareOp op) r) (ho':OpR X (compareOp op') r') (ha:PE X a ta) (hb:PE X b tb) (hc:PE X c tc)
    (hm:lastMarks [op,op'] [b,c]=false:=by with_unfolding_all rfl):PE X (.Compare a [op,op'] [b,c] pos) (tChain r r' ta tb tc):=by
  intro pins s σ H Q I h
  refine Compare_chain (thn (ha pins s σ H _ I h) fun v s1 ⟨x,H1,I1,r1,q1⟩=>chain_link (thn (hb pins s1 σ H1 _ I1 q1) fun u s2 ⟨y,H2,I2,r2,q2⟩ =>
    thn (ho pins s2 σ H2 x y v u _ I2 r1 r2 q2) fun d s3 ⟨z,H3,I3,r3,k,e,q3⟩=>?_)) hm
  subst e
  cases r3
  refine wpAny_truthy_bool ?_
  cases k with
  | false=>exact ite_ff ⟨.bl false,H3,I3,rfl,q3⟩
  | true=>exact ite_tt (chain_last (thn (hc pins s3 σ H3 _ I3 q3) fun w' s4 ⟨z',H4,I4,r4,q4⟩=>ho' pins s4 σ H4 y z' u w' Q I4 r2 r4 q4))
theorem pt_chain {op op':CmpOp} {r r':R2} (ho:OpR X (compareOp op) r) (ho':OpR X (compareOp op') r') (ha:PE X a ta) (hb:PE X b tb) (hc:PE X c tc)
    (hm:lastMarks [op,op'] [b,c]=false:=by with_unfolding_all rfl):PT X (.Compare a [op,op'] [b,c] pos) (tTest (tChain r r' ta tb tc)):=by
  intro pins s σ H Q I h
  refine isTrue_chain (thn (ha pins s σ H _ I h) fun v s1 ⟨x,H1,I1,r1,q1⟩=>test_link (thn (hb pins s1 σ H1 _ I1 q1) fun u s2 ⟨y,H2,I2,r2,q2⟩ =>
    thn (ho pins s2 σ H2 x y v u _ I2 r1 r2 q2) fun d s3 ⟨z,H3,I3,r3,k,e,q3⟩=>?_)) hm
  subst e
  cases r3
  refine wpAny_truthy_bool ?_
  cases k with
  | false =>
    obtain ⟨k',e',q'⟩:=q3
    cases e'
    exact ite_ff ⟨H3,I3,q'⟩
  | true =>
    refine ite_tt (test_last (thn (hc pins s3 σ H3 _ I3 q3) fun w' s4 ⟨z',H4,I4,r4,q4⟩=>thn (ho' pins s4 σ H4 y z' u w' _ I4 r2 r4 q4) fun d' s5 ⟨z2,H5,I5,r5,k2,e2,q5⟩=>?_))
    subst e2
    cases r5
    exact wpAny_truthy_bool ⟨H5,I5,q5⟩
def TruV (K:PySem.W.Frag) (x:V) (H:Hp) (k:Bool):Prop :=
  match x with
  | .non=>k=false
  | .bl b=>k=b
  | .int i=>k=(i != 0)
  | .str y=>y.length≤sizeLine∧k=((y.length:Int) != 0)
  | .byt y=>y.size≤sizeLine∧k=((y.size:Int) != 0)
  | .ref p=>(∃ xs,SqL K H p xs∧k=!xs.isEmpty)∨(∃ xs,SqT K H p xs∧k=!xs.isEmpty)∨∃ kvs,H p=some (.dK kvs)∧k=!kvs.isEmpty
  | _=>False
theorem isEmpty_kv {κ:Type} {kvs:List (κ × V)} {vs:List (κ × Value)} (r:KV kvs vs):(!vs.isEmpty)=!kvs.isEmpty:=by
  cases r <;> rfl
theorem isEmpty_of {xs:List V} {its:List Value} (r:Vals xs its):(!its.toArray.isEmpty)=!xs.isEmpty:=by
  cases r <;> simp
theorem line63:(sizeLine:Nat) < 2 ^ 63:=by rw [sizeLine_eq]; decide
theorem tru_ok:TruR X (fun x H Q=>∃ k,TruV X.K x H k∧Q k H):=by
  intro pins s σ H x v Q I rx h
  obtain ⟨k,e,q⟩:=h
  have hl:=line63
  have hs:sizeLine=16777216:=sizeLine_eq
  cases x with
  | non =>
    cases rx
    have e':k=false:=e
    subst e'
    exact truthy_none ⟨H,I,q⟩
  | bl b =>
    cases rx
    have e':k=b:=e
    subst e'
    exact wpAny_truthy_bool ⟨H,I,q⟩
  | int i =>
    obtain ⟨t,rfl⟩:=rx
    have e':k=(i != 0):=e
    subst e'
    exact PySem.P.truthy_int ⟨H,I,q⟩
  | str y =>
    obtain ⟨t,rfl⟩:=rx
    obtain ⟨hy,e'⟩:y.length≤sizeLine∧k=((y.length:Int) != 0):=e
    subst e'
    exact PySem.P.truthy_str (by omega) ⟨H,I.tok _,q⟩
  | byt y =>
    obtain ⟨t,rfl⟩:=rx
    obtain ⟨hy,e'⟩:y.size≤sizeLine∧k=((y.size:Int) != 0):=e
    subst e'
    exact PySem.W.truthy_bytes (by omega) ⟨H,I.tok _,q⟩
  | ref p =>
    cases rx
    have e':(∃ xs,SqL X.K H p xs∧k=!xs.isEmpty)∨(∃ xs,SqT X.K H p xs∧k=!xs.isEmpty)∨∃ kvs,H p=some (.dK kvs)∧k=!kvs.isEmpty:=e
    rcases e' with ⟨xs,hx,e'⟩ | ⟨xs,hx,e'⟩ | ⟨kvs,hx,e'⟩
    · subst e'
      obtain ⟨its,r,pl,hz⟩:=I.list hx
      have hlen:=r.length
      exact wpAny_truthy_list pl.isList (by simp only [List.size_toArray]; omega) ⟨H,I.tok _,by rw [isEmpty_of r]; exact q⟩
    · subst e'
      obtain ⟨its,r,pl,hz⟩:=I.tuple hx
      have hlen:=r.length
      exact truthy_tuple pl (by simp only [List.size_toArray]; omega) ⟨H,I.tok _,by rw [isEmpty_of r]; exact q⟩
    · subst e'
      obtain ⟨hz,hS,vs,r,m⟩:kvs.length≤sizeLine∧(p == sysModules)=false∧∃ vs,KV kvs vs∧s.heap.DictOf (mixKind X.prog X.w) p vs:=I.hok p _ hx
      have hlen:kvs.length=vs.length:=Paired.length r
      exact wpAny_truthy_dict hS m (by omega) ⟨H,I.tok _,by rw [isEmpty_kv r]; exact q⟩
  | _=>exact (show False from e).elim
theorem pt_truth (ha:PE X a ta) (he:∀ whole,isTrue a X.env whole=(do let v ← whole; standAt a.pos; holding [v] (truthy v))) :
    PT X a (fun σ H Q=>ta σ H fun x H'=>∃ k,TruV X.K x H' k∧Q k H'):=by
  intro pins s σ H Q I h
  exact isTrue_plain (thn (ha pins s σ H _ I h) fun v s1 ⟨x,H1,I1,r1,q1⟩=>tru_ok pins s1 σ H1 x v Q I1 r1 q1) (he _)
theorem vals1 {x:V} {us:List Value} (r:Vals [x] us):∃ u,us=[u]∧RelV x u:=by
  cases r with
  | cons r1 r2=>cases r2; exact ⟨_,rfl,r1⟩
theorem vals2 {x y:V} {us:List Value} (r:Vals [x,y] us):∃ u w',us=[u,w']∧RelV x u∧RelV y w':=by
  cases r with
  | cons r1 r2 =>
    cases r2 with
    | cons r3 r4=>cases r4; exact ⟨_,_,rfl,r1,r3⟩
theorem call_max2 (hc:X.calm=true):CallR X (.builtin "max") (fun xs H Q=>∃ i j,xs=[.int i,.int j]∧Q (.int (if j > i then j else i)) H):=by
  intro pins s σ H xs us Q I r h
  obtain ⟨i,j,rfl,q⟩:=h
  obtain ⟨u,w',rfl,⟨t,rfl⟩,⟨t',rfl⟩⟩:=vals2 r
  refine max_two_ints (I.ok.hd hc) fun h' tk k=>⟨_,H,I.kept k,?_,q⟩
  by_cases hj:j > i
  · rw [if_pos hj,if_pos hj]; exact ⟨_,rfl⟩
  · rw [if_neg hj,if_neg hj]; exact ⟨_,rfl⟩
theorem call_min2 (hc:X.calm=true):CallR X (.builtin "min") (fun xs H Q=>∃ i j,xs=[.int i,.int j]∧Q (.int (if j < i then j else i)) H):=by
  intro pins s σ H xs us Q I r h
  obtain ⟨i,j,rfl,q⟩:=h
  obtain ⟨u,w',rfl,⟨t,rfl⟩,⟨t',rfl⟩⟩:=vals2 r
  refine min_two_ints (I.ok.hd hc) fun h' tk k=>⟨_,H,I.kept k,?_,q⟩
  by_cases hj:j < i
  · rw [if_pos hj,if_pos hj]; exact ⟨_,rfl⟩
  · rw [if_neg hj,if_neg hj]; exact ⟨_,rfl⟩
end
end L2
namespace L2
open PySem PySem.Spec PyProof.Rows
structure ObjM (h:Heap) (x dx C:Addr) (mA:Str→Option Value):Prop where
  obj:h.get? x=some (PySem.W.instObj C dx)
  ns:h.Ns1 dx mA
  ne:dx≠x
theorem lookIn_ns {h:Heap} {dx:Addr} {mA:Str→Option Value} (n:h.Ns1 dx mA):∃ od,h.get? dx=some od∧∀ name,PySem.W.lookIn name od=some (mA name):=by
  obtain ⟨o,es,ep,ho,hd,hk,_,hm⟩:=n
  refine ⟨o,ho,fun name=>?_⟩
  have e:=hm name
  unfold nsFind findBy at e
  rw [← Array.find?_toList] at e
  unfold PySem.W.lookIn
  rw [hd]
  dsimp only
  split
  · rename_i y q
    rw [q] at e
    exact congrArg some e
  · rename_i q
    rw [q] at e
    have a:es.toList.any (·.refKey)=false:=by
      rw [List.any_eq_false]
      intro y hy
      obtain ⟨z,t,hkey⟩:=hk y (Array.mem_toList_iff.mp hy)
      simp [DictEntry.refKey,hkey]
    have a':¬ es.toList.any (·.refKey)=true:=by rw [a]; exact Bool.false_ne_true
    rw [if_neg a']
    exact congrArg some e
theorem ObjM.look {h:Heap} {x dx C:Addr} {mA:Str→Option Value} (I:ObjM h x dx C mA):∃ od,PySem.W.InstAt h x (PySem.W.instObj C dx) C (some od)∧∀ name,PySem.W.lookIn name od=some (mA name) :=
  let ⟨od,ho,hl⟩:=lookIn_ns I.ns
  ⟨od,⟨I.obj,rfl,rfl,ho⟩,hl⟩
section
variable {prog : Program} {w : World} {A : Around} {E : Value → Shared → Prop} {s : Shared} {K : PySem.W.Frag} {x dx C f : Addr} {mA : Str → Option Value} {name : Str} {v : Value}
theorem get_map {expr:Bool} {Q:Value→Shared→Prop} (X:K.In s.heap) (I:ObjM s.heap x dx C mA) (hg:PySem.W.plainGet K C name=true) (hh:PySem.W.hasDictIn K C=true)
    (ha:PySem.W.findIn K (.ref C) name=some none) (hv:mA name=some v) (hv':PySem.W.handedIn v=true) (h:Q v { s with toks:=s.toks + 1 }) :
    wpAny (model prog w) A (getAttr (.ref x) name expr) Q E s:=by
  obtain ⟨od,J,hl⟩:=I.look
  exact PySem.W.get_value X J (PySem.W.plainGet_of hg).1 (PySem.W.findObj_own hh ha rfl (by rw [hl,hv])) hv' h
theorem get_meth {pl:Sem Bool} {Q:Value × List Value→Shared→Prop} (X:K.In s.heap) (I:ObjM s.heap x dx C mA) (hg:PySem.W.plainGet K C name=true)
    (hf:PySem.W.findIn K (.ref C) name=some (some (.ref f))) (ht:PySem.W.isFn K (.ref f)=true) (hv:mA name=none) (h:Q (.ref f,[.ref x]) s) :
    wpAny (model prog w) A (getMethod (.ref x) name pl) Q E s:=by
  obtain ⟨od,J,hl⟩:=I.look
  exact PySem.W.method_fn X J (PySem.W.plainGet_of hg).1 (PySem.W.plainGet_of hg).2 hf (beq_iff_eq.mp ht) (by show (PySem.W.lookIn name od).map (·.isSome)=some false; rw [hl,hv]; rfl) h
theorem set_map {ns:List Str} {Q:Unit→Shared→Prop} (X:K.In s.heap) (I:ObjM s.heap x dx C mA)
    (hs:PySem.W.findIn K (.ref C) "__setattr__"=some (some (.builtin "object.__setattr__"))) (hp:PySem.W.plainOver K C=true) (ht:PySem.W.takerIn K C name=some none) (hh:PySem.W.hasDictIn K C=true)
    (hw:PySem.Within mA ns) (hsz:ns.length≤sizeLine)
    (h:∀ h',ObjM h' x dx C (fun y=>if y=name then some v else mA y)→Heap.SameBut dx s.heap h'→Q () { s with heap:=h',toks:=s.toks + 2 }) :
    wpAny (model prog w) A (setAttr (.ref x) name v) Q E s:=by
  obtain ⟨od,J,hl⟩:=I.look
  refine PySem.W.set_plain X J hs (PySem.W.osa_open (s:={ s with toks:=s.toks + 1 }) (r:=none) X J hp ht fun b=>?_)
  obtain ⟨cd,hc,hd'⟩:=PySem.W.any_some hh
  have hx:s.heap.get? x=some ⟨.ref C,some dx,.plain,#[]⟩:=I.obj
  refine wpAny_bind (wpAny_pure (wpAny_bind (wpAny_bind (wpAny_loadPart hx (wpAny_bind (PySem.W.Looks.here (s:={ s with toks:=s.toks + 1 }) (PySem.W.looks_clsIn X hc) ?_))))))
  rw [hd']
  refine wpAny_pure (a:=some dx) (wpAny_bind (wpAny_pure (wpAny_bind ?_)))
  refine wpAny_nsSet1 (s:={ s with toks:=s.toks + 1 }) I.ns fun h' hn2 hs2=>?_
  obtain ⟨oD,esD,epD,hoD,hdD,hcD⟩:=hn2.count (PySem.Within.cons name v hw)
  refine wpAny_bind (wpAny_lookBehind hoD (by rw [hdD]; exact pastItsLine_dict (Nat.le_trans hcD (by rw [List.length_cons]; omega))) ?_)
  exact wpAny_pure (h _ ⟨(hs2.2 _ (Ne.symm I.ne)).trans I.obj,hn2,I.ne⟩ hs2)
theorem make_map {R:Result→Shared→Prop} {vs:List Value} {kw:List (Str × Value)} (X:K.In s.heap) (hm:PySem.W.makesIn K C=true)
    (hi:PySem.W.findIn K (.ref C) "__init__"=some (some (.ref f))) (hf:PySem.W.typeIn K (.ref f)=some (.type "function"))
    (h:codeAny (model prog w) (A.under (.builtin "type.__call__" ⟨.ref C :: vs,kw⟩)) (.call (.ref f) ⟨.ref (s.heap.objs.size + 1) :: vs,kw⟩) (PySem.W.InitBack (s.heap.objs.size + 1) R)
      { s with heap:=(s.heap.push PySem.W.emptyDict).push (PySem.W.instObj C s.heap.objs.size) }) :
    codeAny (model prog w) A (.call (.ref C) ⟨vs,kw⟩) R s:=by
  obtain ⟨hh,g,d,t,os⟩:=s
  exact PySem.W.make_core (PySem.W.makes_of X hm) (PySem.W.looks_findIn X hi) (fun self=>PySem.W.bind_fn X self hf) (.inl rfl) h
theorem make_map0 {R:Result→Shared→Prop} (X:K.In s.heap) (hm:PySem.W.makesIn K C=true)
    (hi:PySem.W.findIn K (.ref C) "__init__"=some (some (.builtin "object.__init__")))
    (hb:∀ self,PySem.W.Looks (model prog w) s.heap (bindSpecial (.builtin "object.__init__") self) (.builtin "object.__init__",[self]))
    (h:codeAny (model prog w) (A.under (.builtin "type.__call__" ⟨[.ref C],[]⟩)) (.call (.builtin "object.__init__") ⟨[.ref (s.heap.objs.size + 1)],[]⟩) (PySem.W.InitBack (s.heap.objs.size + 1) R)
      { s with heap:=(s.heap.push PySem.W.emptyDict).push (PySem.W.instObj C s.heap.objs.size) }) :
    codeAny (model prog w) A (.call (.ref C) ⟨[],[]⟩) R s:=by
  obtain ⟨hh,g,d,t,os⟩:=s
  exact PySem.W.make_core (PySem.W.makes_of X hm) (PySem.W.looks_findIn X hi) hb (.inr ⟨rfl,rfl⟩) h
end
def putF (f:Str) (v:V):List (Str × V)→List (Str × V)
  | []=>[(f,v)]
  | (g,x) :: r=>if g=f then (g,v) :: r else (g,x) :: putF f v r
theorem lookup_putF (f g:Str) (v:V):∀ fs:List (Str × V),(putF f v fs).lookup g=if g=f then some v else fs.lookup g
  | []=>by
    show List.lookup g [(f,v)]=_
    by_cases h:g=f
    · have hb:(g == f)=true:=beq_iff_eq.mpr h
      simp only [List.lookup,hb,if_pos h]
    · have hb:(g == f)=false:=beq_eq_false_iff_ne.mpr h
      simp only [List.lookup,hb,if_neg h]
  | (k,x) :: r=>by
    have ih:=lookup_putF f g v r
    rw [show putF f v ((k,x) :: r)=(if k=f then (k,v) :: r else (k,x) :: putF f v r) from rfl]
    by_cases hk:k=f
    · rw [if_pos hk]
      by_cases h:g=k
      · have hb:(g == k)=true:=beq_iff_eq.mpr h
        simp only [List.lookup,hb,if_pos (h.trans hk)]
      · have hb:(g == k)=false:=beq_eq_false_iff_ne.mpr h
        simp only [List.lookup,hb,if_neg (fun e:g=f=>h (e.trans hk.symm))]
    · rw [if_neg hk]
      by_cases h:g=k
      · have hb:(g == k)=true:=beq_iff_eq.mpr h
        simp only [List.lookup,hb,if_neg (fun e:g=f=>hk (h.symm.trans e))]
      · have hb:(g == k)=false:=beq_eq_false_iff_ne.mpr h
        simp only [List.lookup,hb]
        exact ih
theorem keys_putF (f:Str) (v:V):∀ fs:List (Str × V),f∈(putF f v fs).map (·.1)∧∀ g,g∈fs.map (·.1)→g∈(putF f v fs).map (·.1)
  | []=>⟨by simp [putF],fun g h=>by simp at h⟩
  | (k,x) :: r=>by
    obtain ⟨i1,i2⟩:=keys_putF f v r
    rw [show putF f v ((k,x) :: r)=(if k=f then (k,v) :: r else (k,x) :: putF f v r) from rfl]
    by_cases hk:k=f
    · rw [if_pos hk]
      subst hk
      exact ⟨by simp,fun g h=>by simpa using h⟩
    · rw [if_neg hk]
      refine ⟨?_,fun g h=>?_⟩
      · rw [List.map_cons]
        exact List.mem_cons_of_mem _ i1
      · rw [List.map_cons] at h ⊢
        rcases List.mem_cons.mp h with e | e
        · exact List.mem_cons.mpr (.inl e)
        · exact List.mem_cons_of_mem _ (i2 g e)
theorem length_putF (f:Str) (v:V):∀ fs:List (Str × V),(putF f v fs).length≤fs.length + 1
  | []=>by simp [putF]
  | (k,x) :: r=>by
    have ih:=length_putF f v r
    rw [show putF f v ((k,x) :: r)=(if k=f then (k,v) :: r else (k,x) :: putF f v r) from rfl]
    by_cases hk:k=f
    · rw [if_pos hk,List.length_cons,List.length_cons]; omega
    · rw [if_neg hk,List.length_cons,List.length_cons]; omega
theorem RelO.some_of {v:V} {o:Option Value} (r:RelO (some v) o):∃ u,o=some u∧RelV v u:=by
  cases o with
  | none=>exact (show False from r).elim
  | some u=>exact ⟨u,rfl,r⟩
theorem RelO.none_of {o:Option Value} (r:RelO none o):o=none:=by
  cases o with
  | none=>rfl
  | some u=>exact (show False from r).elim
theorem handed_of {v:V} {u:Value} (r:RelV v u):PySem.W.handedIn u=true:=by
  cases v with
  | non=>cases (show u=Value.none from r); rfl
  | bl b=>cases (show u=Value.bool b from r); rfl
  | int i=>obtain ⟨t,e⟩:=(show ∃ t,u=Value.int i t from r); cases e; rfl
  | str x=>obtain ⟨t,e⟩:=(show ∃ t,u=Value.str x t from r); cases e; rfl
  | byt b=>obtain ⟨t,e⟩:=(show ∃ t,u=Value.bytes b t from r); cases e; rfl
  | flt b=>obtain ⟨t,e⟩:=(show ∃ t,u=Value.float b t from r); cases e; rfl
  | ref a=>cases (show u=Value.ref a from r); rfl
  | ty n=>cases (show u=Value.type n from r); rfl
section
variable {P : Program} {w : World} {H H' : Hp} {h h' : Heap} {a C dx : Addr} {fs fs' : List (Str × V)}
theorem ins_get (hok:HOk P w H h) (e:H a=some (.ins C dx fs)):∃ mA,ObjM h a dx C mA∧(∀ f,RelO (fs.lookup f) (mA f))∧PySem.Within mA (fs.map (·.1))∧fs.length≤1000∧H dx=some (.own a):=by
  obtain ⟨d,z,ne,ob,mA,n,r,q⟩:=(show ObjOk P w H h a (.ins C dx fs) from hok a _ e)
  exact ⟨mA,⟨ob,n,ne⟩,r,q,z,d⟩
end
structure Cls (K:PySem.W.Frag) (C:Addr):Prop where
  pg:PySem.W.plainGet K C Str.empty=true
  hd:PySem.W.hasDictIn K C=true
  po:PySem.W.plainOver K C=true
  sa:PySem.W.findIn K (.ref C) "__setattr__"=some (some (.builtin "object.__setattr__"))
theorem Cls.get {K:PySem.W.Frag} {C:Addr} (c:Cls K C) (f:Str):PySem.W.plainGet K C f=true:=c.pg
def NoAttr (K:PySem.W.Frag) (C:Addr) (f:Str):Prop:=PySem.W.findIn K (.ref C) f=some none
theorem NoAttr.taker {K:PySem.W.Frag} {C:Addr} {f:Str} (n:NoAttr K C f):PySem.W.takerIn K C f=some none:=by
  unfold PySem.W.takerIn
  rw [show PySem.W.findIn K (.ref C) f=some none from n]
  rfl
structure Con (K:PySem.W.Frag) (C:Addr) (f:Str) (v:V) (u:Value):Prop where
  at_:PySem.W.findIn K (.ref C) f=some (some u)
  rel:RelV v u
  get:PySem.W.specialIn K u "__get__"=some none
  cp:PySem.W.copiedNames.contains f=false
structure Meth (K:PySem.W.Frag) (C:Addr) (m:Str) (f:Addr):Prop where
  at_:PySem.W.findIn K (.ref C) m=some (some (.ref f))
  fn:PySem.W.isFn K (.ref f)=true
  kp:PySem.W.keepIn K (.ref f)=true
section
variable {X : Cx} {pins : List (Addr × Obj)} {σ : St} {H : Hp} {s : Shared} {a C dx : Addr} {fs : List (Str × V)} {f : Str} {v : V} {A : Around} {E : Value → Shared → Prop}
theorem getattr_ok {b:Bool} {Q:Value→Shared→Prop} (I:Inv X pins σ H s) (e:H a=some (.ins C dx fs)) (c:Cls X.K C) (n:NoAttr X.K C f) (l:fs.lookup f=some v)
    (h:∀ u s',Inv X pins σ H s'→RelV v u→Q u s'):wpAny (model X.prog X.w) A (getAttr (.ref a) f b) Q E s:=by
  obtain ⟨mA,O,r,_,_,_⟩:=ins_get I.hok e
  obtain ⟨u,hu,ru⟩:=RelO.some_of (v:=v) (o:=mA f) (by rw [← l]; exact r f)
  exact get_map I.kIn O (c.get f) c.hd n hu (handed_of ru) (h u _ (I.tok _) ru)
theorem getmeth_ok {m:Str} {g:Addr} {pl:Sem Bool} {Q:Value × List Value→Shared→Prop} (I:Inv X pins σ H s) (e:H a=some (.ins C dx fs)) (c:Cls X.K C) (k:Meth X.K C m g) (l:fs.lookup m=none)
    (h:Q (.ref g,[.ref a]) s):wpAny (model X.prog X.w) A (getMethod (.ref a) m pl) Q E s:=by
  obtain ⟨mA,O,r,_,_,_⟩:=ins_get I.hok e
  have hn:mA m=none:=RelO.none_of (by rw [← l]; exact r m)
  exact get_meth I.kIn O (c.get m) k.at_ k.fn hn h
theorem setattr_ok {y:V} {u:Value} {Q:Unit→Shared→Prop} (I:Inv X pins σ H s) (e:H a=some (.ins C dx fs)) (c:Cls X.K C) (n:NoAttr X.K C f) (hl:fs.length < 1000) (ry:RelV y u)
    (h:∀ s',Inv X pins σ (upd H a (.ins C dx (putF f y fs))) s'→Q () s'):wpAny (model X.prog X.w) A (setAttr (.ref a) f u) Q E s:=by
  obtain ⟨mA,O,r,wi,_,ho⟩:=ins_get I.hok e
  have hz:(fs.map (·.1)).length≤sizeLine:=by rw [List.length_map,sizeLine_eq]; omega
  refine set_map I.kIn O c.sa c.po n.taker c.hd wi hz fun h' O' sb=>h _ ?_
  have hd:∃ o,h'.get? dx=some o:=let ⟨o,_,_,e',_⟩:=O'.ns; ⟨o,e'⟩
  refine I.write (x:=a) (e:=dx) (by rw [e]; exact True.intro) (.inr ho) (fun b q hb z=>(sb.2 b hb).trans z) hd ?_
  refine ⟨by rw [upd_ne O.ne]; exact ho,?_,O.ne,O'.obj,_,O'.ns,fun g=>?_,fun g hg=>?_⟩
  · have:=length_putF f y fs; omega
  · show RelO ((putF f y fs).lookup g) (if g=f then some u else mA g)
    rw [lookup_putF]
    by_cases q:g=f
    · rw [if_pos q,if_pos q]; exact ry
    · rw [if_neg q,if_neg q]; exact r g
  · by_cases q:g=f
    · rw [q]; exact (keys_putF f y fs).1
    · refine (keys_putF f y fs).2 g (wi g fun z=>hg ?_)
      show (if g=f then some u else mA g)=none
      rw [if_neg q]; exact z
theorem Inv.made (I:Inv X pins σ H s):Inv X pins σ (upd (upd H s.heap.objs.size (.own (s.heap.objs.size + 1))) (s.heap.objs.size + 1) (.ins C s.heap.objs.size []))
    { s with heap:=(s.heap.push PySem.W.emptyDict).push (PySem.W.instObj C s.heap.objs.size) }:=by
  have e1:(s.heap.push PySem.W.emptyDict).get? s.heap.objs.size=some PySem.W.emptyDict:=Heap.get?_push_size s.heap rfl
  have e2:((s.heap.push PySem.W.emptyDict).push (PySem.W.instObj C s.heap.objs.size)).get? (s.heap.objs.size + 1)=some (PySem.W.instObj C s.heap.objs.size):=by
    have:=Heap.get?_push_size (s.heap.push PySem.W.emptyDict) (o:=PySem.W.instObj C s.heap.objs.size) rfl
    rwa [Heap.size_push] at this
  have e3:(s.heap.push PySem.W.emptyDict).Ns s.heap.objs.size (fun _=>none):=⟨PySem.W.emptyDict,#[],_,e1,rfl,(fun e he=>absurd he (by simp)),fun _=>rfl⟩
  have I1:=I.laid (a:=s.heap.objs.size) (o:=.own (s.heap.objs.size + 1)) (h':=s.heap.push PySem.W.emptyDict) (t':=s.toks) (fun b u q=>Heap.get?_push_of_some _ q) (Nat.le_refl _) ⟨_,e1⟩
  refine I1.laid (a:=s.heap.objs.size + 1) (o:=.ins C s.heap.objs.size []) (t':=s.toks) (fun b u q=>Heap.get?_push_of_some _ q) (Nat.le_of_eq (Heap.size_push _ _)) ?_
  have ne:s.heap.objs.size≠s.heap.objs.size + 1:=Nat.ne_of_lt (Nat.lt_succ_self _)
  refine ⟨by rw [upd_ne ne,upd_same],Nat.zero_le _,ne,e2,fun _=>none,(Heap.Ns1.of_empty e3).at fun o q=>Heap.get?_push_of_some _ q,fun _=>True.intro,fun y hy=>absurd rfl hy⟩
theorem attr_of {prog:Program} {w:World} {env:Env} {e:Expr} {f:Str} {pos:Pos} {s:Shared} {Q:Value→Shared→Prop} (hb:attributeBase e f env (eval e env)=eval e env)
    (h:wpAny (model prog w) A (eval e env) (fun o s₁=>wpAny (model prog w) A (getAttr o f true) Q E s₁) E s):wpAny (model prog w) A (eval (.Attribute e f pos) env) Q E s :=
  Attribute_any_ h (by rw [arm_eval_Attribute,hb])
end
def tFld (K:PySem.W.Frag) (ta:TE) (f:Str):TE:=fun σ H Q=>ta σ H fun x H1=>∃ a C dx fs v,x=.ref a∧H1 a=some (.ins C dx fs)∧Cls K C∧NoAttr K C f∧fs.lookup f=some v∧Q v H1
def sFld (K:PySem.W.Frag) (ta tv:TE) (f:Str):TS:=fun D σ H=>tv σ H fun y H1=>ta σ H1 fun x H2=>∃ a C dx fs,x=.ref a∧H2 a=some (.ins C dx fs)∧Cls K C∧NoAttr K C f∧fs.length < 1000 ∧
  D.nx σ (upd H2 a (.ins C dx (putF f y fs)))
section
variable {X : Cx} {o e value : Expr} {f : Str} {pos pos' tpos : Pos} {ta tv : TE}
theorem pe_fld (he:PE X e ta) (hb:attributeBase e f X.env (eval e X.env)=eval e X.env):PE X (.Attribute e f pos) (tFld X.K ta f):=by
  intro pins s σ H Q I h
  refine attr_of hb (thn (he pins s σ H _ I h) fun u s1 ⟨x,H1,I1,rx,a,C,dx,fs,v,ex,ea,c,n,l,q⟩=>?_)
  subst ex
  obtain rfl:u=Value.ref a:=rx
  exact getattr_ok I1 ea c n l fun u' s2 I2 ru=>⟨v,H1,I2,ru,q⟩
theorem ps_fld (ha:PE X o ta) (hv:PE X value tv) (hs:swapsWith value (some (.Attribute o f pos')) pos.line X.env=pure false):PS X (.Assign [.Attribute o f pos'] value pos) (sFld X.K ta tv f):=by
  intro pins s σ H D I h
  refine plainObj_wpAny_Assign_Attribute (thn (hv pins s σ H _ I h) fun u s1 ⟨y,H1,I1,ry,q⟩=>thn (ha pins s1 σ H1 _ I1 q) fun ov s2 ⟨x,H2,I2,rx,a,C,dx,fs,ex,ea,c,n,l,q2⟩=>?_) hs
  subst ex
  obtain rfl:ov=Value.ref a:=rx
  exact setattr_ok I2 ea c n l ry fun s3 I3=>⟨σ,_,I3,q2⟩
end
section
variable {X : Cx} {pins : List (Addr × Obj)} {σ : St} {H : Hp} {s : Shared} {A : Around} {E : Value → Shared → Prop} {Q : Value → Shared → Prop} {c : Value} {b : Bool}
inductive TyOf (K:PySem.W.Frag) (H:Hp):V→Value→Prop where
  | non:TyOf K H .non (.type "NoneType")
  | bl (x:Bool):TyOf K H (.bl x) (.type "bool")
  | int (i:Int):TyOf K H (.int i) (.type "int")
  | str (x:Str):TyOf K H (.str x) (.type "str")
  | flt (x:UInt64):TyOf K H (.flt x) (.type "float")
  | lst {a:Addr} {xs:List V} (e:H a=some (.lst xs)):TyOf K H (.ref a) (.type "list")
  | frz {a:Addr} {o:Obj} {xs:List V} (e:H a=some (.frz o (.lst xs))):TyOf K H (.ref a) (.type "list")
  | tup {a:Addr} {xs:List V} (e:H a=some (.tup xs)):TyOf K H (.ref a) (.type "tuple")
  | dK {a:Addr} {kvs:List (Key × V)} (e:H a=some (.dK kvs)):TyOf K H (.ref a) (.type "dict")
  | dT {a:Addr} {kvs:List (List Key × V)} (e:H a=some (.dT kvs)):TyOf K H (.ref a) (.type "dict")
  | ins {a C dx:Addr} {fs:List (Str × V)} (e:H a=some (.ins C dx fs)) (cl:Cls K C) (ha:PySem.W.findIn K (.ref C) "__class__"=some (some (.builtin "object.__class__")))
      (hn:PySem.W.specialIn K (.builtin "object.__class__") "__get__"=some (some (.builtin "getset_descriptor.__get__"))) (htk:PySem.W.takesIn K (.builtin "object.__class__")=some true)
      (hm:PySem.W.mroIn K C (.type "object")=some true):TyOf K H (.ref a) (.ref C)
theorem isinst_ok {x:V} {u t:Value} (I:Inv X pins σ H s) (rx:RelV x u) (ty:TyOf X.K H x t) (e:PySem.W.kitOne X.K t c=some b) (h:∀ tk,Q (.bool b) { s with toks:=tk }) :
    wpAny (model X.prog X.w) A (call (.builtin "isinstance") [u,c]) Q E s:=by
  cases ty with
  | non=>cases (show u=Value.none from rx); exact PySem.W.kia_one PySem.W.kitx_none I.kIn True.intro e (fun z=>nomatch z) h
  | bl y=>cases (show u=Value.bool y from rx); exact PySem.W.kia_one PySem.W.kitx_bool I.kIn True.intro e (fun z=>nomatch z) h
  | int i=>obtain ⟨t,q⟩:=(show ∃ t,u=Value.int i t from rx); cases q; exact PySem.W.kia_one PySem.W.kitx_int I.kIn True.intro e (fun z=>nomatch z) h
  | str y=>obtain ⟨t,q⟩:=(show ∃ t,u=Value.str y t from rx); cases q; exact PySem.W.kia_one PySem.W.kitx_str I.kIn True.intro e (fun z=>nomatch z) h
  | flt y=>obtain ⟨t,q⟩:=(show ∃ t,u=Value.float y t from rx); cases q; exact PySem.W.kia_one PySem.W.kitx_float I.kIn True.intro e (fun z=>nomatch z) h
  | @lst a xs ea =>
    cases (show u=Value.ref a from rx)
    obtain ⟨_,_,n,_,h1⟩:=(show ObjOk X.prog X.w H s.heap a (.lst xs) from I.hok a _ ea)
    exact PySem.W.kia_one PySem.W.kitx_list I.kIn ⟨_,h1,rfl⟩ e (fun z=>nomatch z) h
  | @frz a ob xs ea =>
    cases (show u=Value.ref a from rx)
    obtain ⟨_,_,_,n,_,h1⟩:=(show ObjOk X.prog X.w H s.heap a (.frz ob (.lst xs)) from I.hok a _ ea)
    exact PySem.W.kia_one PySem.W.kitx_list I.kIn ⟨_,h1,rfl⟩ e (fun z=>nomatch z) h
  | @tup a xs ea =>
    cases (show u=Value.ref a from rx)
    obtain ⟨_,_,_,p⟩:=(show ObjOk X.prog X.w H s.heap a (.tup xs) from I.hok a _ ea)
    obtain ⟨o,h1,h2,_⟩:=p
    exact PySem.W.kia_one PySem.W.kitx_tuple I.kIn ⟨o,h1,h2⟩ e (fun z=>nomatch z) h
  | @dK a kvs ea =>
    cases (show u=Value.ref a from rx)
    obtain ⟨_,_,vs,_,p⟩:=(show ObjOk X.prog X.w H s.heap a (.dK kvs) from I.hok a _ ea)
    obtain ⟨o,es,ep,h1,h2,_⟩:=p
    exact PySem.W.kia_one PySem.W.kitx_dict I.kIn ⟨o,h1,h2.1⟩ e (fun z=>nomatch z) h
  | @dT a kvs ea =>
    cases (show u=Value.ref a from rx)
    obtain ⟨_,_,xs,_,o,es,ep,h1,h2,_⟩:=(show ObjOk X.prog X.w H s.heap a (.dT kvs) from I.hok a _ ea)
    exact PySem.W.kia_one PySem.W.kitx_dict I.kIn ⟨o,h1,h2.1⟩ e (fun z=>nomatch z) h
  | @ins a C dx fs ea cl ha hn htk hm =>
    cases (show u=Value.ref a from rx)
    obtain ⟨mA,O,_⟩:=ins_get I.hok ea
    obtain ⟨od,J,_⟩:=O.look
    exact PySem.W.kia_one (PySem.W.kitx_own (cl.get _) cl.hd ha hn htk hm) I.kIn J e (fun z=>nomatch z) h
end
end L2
namespace L2
open PySem PySem.Spec PyProof.Rows
structure Room (k:Nat) (A:Around):Prop where
  hd:A.handled=none
  dp:A.depth + 3 * k + 5 < recursionLimit
  un:A.units + 16 * k + 200 < cLine
  gd:A.guards=some []
theorem Room.mono {j k:Nat} {A:Around} (r:Room k A) (h:j≤k):Room j A:=⟨r.hd,by have:=r.dp; omega,by have:=r.un; omega,r.gd⟩
theorem Room.deeper {k:Nat} {A:Around} (r:Room (k + 1) A) (env:Env):Room k (A.deeper env) :=
  ⟨r.hd,by have:=r.dp; show A.depth + 1 + 3 * k + 5 < _; omega,by have:=r.un; show A.units + 3 + 16 * k + 200 < _; omega,r.gd⟩
theorem make_depth {A:Around} {C:Addr} {us:List Value} {kw:List (Str × Value)}:(A.under (.builtin "type.__call__" ⟨.ref C :: us,kw⟩)).depth=A.depth + 1:=by
  first | rfl | simp [Around.under,Code.weight,Code.isCreation,Code.isGuard,Code.isCaller,Code.frames,Code.isFrame,guardIds]
theorem make_units {A:Around} {C:Addr} {us:List Value} {kw:List (Str × Value)}:(A.under (.builtin "type.__call__" ⟨.ref C :: us,kw⟩)).units=A.units + 1:=by
  first | rfl | simp [Around.under,Code.cUnits,Code.frames,Code.isFrame]
theorem make_guards {A:Around} {C:Addr} {us:List Value} {kw:List (Str × Value)} (h:A.guards=some []):(A.under (.builtin "type.__call__" ⟨.ref C :: us,kw⟩)).guards=some []:=by
  have e:(Code.builtin "type.__call__" ⟨.ref C :: us,kw⟩).guards=[]:=by first | rfl | simp [Code.guards,Code.isGuard,guardIds]
  show pushGuards (Code.builtin "type.__call__" ⟨.ref C :: us,kw⟩).guards A.guards=some []
  rw [e,h]; rfl
theorem Room.make {k:Nat} {A:Around} (r:Room (k + 1) A) (C:Addr) (us:List Value) (kw:List (Str × Value)):Room k (A.under (.builtin "type.__call__" ⟨.ref C :: us,kw⟩)) :=
  ⟨r.hd,by have:=r.dp; rw [make_depth]; omega,by have:=r.un; rw [make_units]; omega,make_guards r.gd⟩
theorem Room.depth {k:Nat} {A:Around} (r:Room k A):A.depth < recursionLimit:=by have:=r.dp; omega
theorem Room.units {k:Nat} {A:Around} (r:Room k A):A.units + 64 < cLine:=by have:=r.un; omega
theorem Room.units0 {k:Nat} {A:Around} (r:Room k A):A.units < cLine:=by have:=r.un; omega
def tNil:TA:=fun _ H Q=>Q [] H
def tCons (ta:TE) (tr:TA):TA:=fun σ H Q=>ta σ H fun x H1=>tr σ H1 fun xs H2=>Q (x :: xs) H2
section
variable {X : Cx} {e : Expr} {es : List Expr} {te : TE} {t : TA} {pos : Pos}
theorem pa_nil:PA X [] tNil:=fun _ _ _ _ H Q I h=>Calls.spliced_nil ⟨[],H,I,.nil,h⟩
theorem pa_cons (ha:PE X e te) (hr:PA X es t) (hs:starEach (e :: es) X.env=(false,eval e X.env) :: starEach es X.env:=by rfl):PA X (e :: es) (tCons te t):=by
  intro pos pins s σ H Q I h
  rw [hs]
  show wpAny _ _ (spliced ((false,eval e X.env) :: backTo pos (starEach es X.env))) _ _ s
  refine Calls.spliced_cons (thn (ha pins s σ H _ I h) fun u s1 ⟨x,H1,I1,r1,q1⟩=>?_)
  exact thn (hr pos pins s1 σ H1 _ I1 q1) fun us s2 ⟨xs,H2,I2,r2,q2⟩=>⟨x :: xs,H2,I2,.cons r1 r2,q2⟩
def tTup (t:TA):TE:=fun σ H Q=>t σ H fun xs H1=>xs.length≤sizeLine∧∀ p,H1 p=none→Q (.ref p) (upd H1 p (.tup xs))
def tLst (t:TA):TE:=fun σ H Q=>t σ H fun xs H1=>xs.length≤sizeLine∧∀ p,H1 p=none→Q (.ref p) (upd H1 p (.lst xs))
theorem pe_tup {x1} (h:PA X es t):PE X (.Tuple es x1 pos) (tTup t):=by
  intro pins s σ H Q I hq
  refine wpAny_Tuple_spliced (thn (h pos pins s σ H _ I hq) fun us s1 ⟨xs,H1,I1,r,z,q⟩=>⟨by rw [← r.length]; exact z,?_⟩)
  have hf:H1 s1.heap.objs.size=none:=I1.hok.fresh (Nat.le_refl _)
  refine ⟨.ref s1.heap.objs.size,upd H1 s1.heap.objs.size (.tup xs),I1.laid (t':=s1.toks) (fun b u e=>Heap.get?_push_of_some _ e) (Nat.le_refl _) ?_,rfl,q _ hf⟩
  exact ⟨z,us,r,⟨_,Heap.get?_push_size _ rfl,rfl,_,rfl⟩⟩
theorem pe_lst (h:PA X es t):PE X (.List es pos) (tLst t):=by
  intro pins s σ H Q I hq
  refine wpAny_List_spliced (thn (h pos pins s σ H _ I hq) fun us s1 ⟨xs,H1,I1,r,z,q⟩=>⟨by rw [← r.length]; exact z,?_⟩)
  have hf:H1 s1.heap.objs.size=none:=I1.hok.fresh (Nat.le_refl _)
  refine ⟨.ref s1.heap.objs.size,upd H1 s1.heap.objs.size (.lst xs),I1.laid (t':=s1.toks) (fun b u e=>Heap.get?_push_of_some _ e) (Nat.le_refl _) ?_,rfl,q _ hf⟩
  exact ⟨z,us,0,r,Heap.get?_push_size _ rfl⟩
end
abbrev Sp:=List V→Hp→VK→XK→Prop
abbrev CXT:=List Env→Hp→Shared→XK→Value→Shared→Prop
structure Env0 (P:Program) (w:World) (K:PySem.W.Frag) (mg:Str→Option Value) (base:Heap) (A:Around) (outer:List Env) (s:Shared) (H:Hp):Prop where
  frames:A.frames=some outer
  mod:Mod K mg base
  bs:∀ b o,base.get? b=some o→s.heap.get? b=some o∧H b=none
  bsz:base.objs.size≤s.heap.objs.size
  funs:s.heap.FunFrames base outer
  frf:∀ b∈frs outer,H b=none
  hok:HOk P w H s.heap
  bare:AllBare s.gens
def CE (outer:List Env) (P:Program) (w:World) (H:Hp) (s:Shared) (Q:VK) (u:Value) (s':Shared):Prop :=
  ∃ v H',s'.os=s.os∧AllBare s'.gens∧Un (frs outer) [] H H' s.heap s'.heap∧HOk P w H' s'.heap∧RelV v u∧Q v H'
def CR (CX:CXT) (outer:List Env) (P:Program) (w:World) (H:Hp) (s:Shared) (Q:VK) (E:XK) (r:Result) (s':Shared):Prop :=
  match r with
  | .ok (.ret u)=>CE outer P w H s Q u s'
  | .ok _=>False
  | .error e=>CX outer H s E e s'
structure FnOk (P:Program) (w:World) (K:PySem.W.Frag) (mg:Str→Option Value) (base:Heap) (CX:CXT) (k:Nat) (f:Addr) (fd:FuncData) (ps:List Str) (sp:Sp):Prop where
  len:∀ vs H Q E,sp vs H Q E→vs.length=ps.length
  run:∀ (A:Around) (outer:List Env) (s:Shared) (H:Hp) (args:Args) (us:List Value) (vs:List V) (Q:VK) (E:XK),Room k A→Env0 P w K mg base A outer s H→BindsTo s fd args (ps.zip us)→Vals vs us→sp vs H Q E →
    codeAny (model P w) A (.call (.ref f) args) (CR CX outer P w H s Q E) s
theorem FnOk.imp {P:Program} {w:World} {K:PySem.W.Frag} {mg:Str→Option Value} {base:Heap} {CX:CXT} {k:Nat} {f:Addr} {fd:FuncData} {ps:List Str} {sp sp':Sp} (F:FnOk P w K mg base CX k f fd ps sp)
    (h:∀ vs H Q E,sp' vs H Q E→sp vs H Q E):FnOk P w K mg base CX k f fd ps sp' :=
  ⟨fun vs H Q E q=>F.len vs H Q E (h _ _ _ _ q),fun A outer s H args us vs Q E hr he hb hv hs=>F.run A outer s H args us vs Q E hr he hb hv (h _ _ _ _ hs)⟩
theorem Env0.make {P:Program} {w:World} {K:PySem.W.Frag} {mg:Str→Option Value} {base:Heap} {A:Around} {outer:List Env} {s:Shared} {H:Hp} (e:Env0 P w K mg base A outer s H) (C:Addr) (us:List Value) (kw:List (Str × Value)) :
    Env0 P w K mg base (A.under (.builtin "type.__call__" ⟨.ref C :: us,kw⟩)) outer s H:=⟨by first | exact e.frames | (simpa [Around.under,Code.envs,Code.isFrame,pushEnvs] using e.frames),e.mod,e.bs,e.bsz,e.funs,e.frf,e.hok,e.bare⟩
section
variable {X : Cx} {pins : List (Addr × Obj)} {σ : St} {H : Hp} {s s' : Shared}
theorem Inv.env0 (I:Inv X pins σ H s):Env0 X.prog X.w X.K X.mg X.base X.A X.stack s H :=
  ⟨I.ok.frames,I.ok.mod,I.bs,Nat.le_trans I.ok.bsz I.sz,I.stack,I.stkFree,I.hok,I.bare⟩
theorem Inv.after {Q:VK} {u:Value} (I:Inv X pins σ H s) (h:CE X.stack X.prog X.w H s Q u s'):EP X pins σ Q u s':=by
  obtain ⟨v,H',os,bare,un,hok,r,q⟩:=h
  obtain ⟨hh,g,d,t,os'⟩:=s'
  obtain rfl:os'=s.os:=os
  exact ⟨v,H',I.call (h':=hh) (g':=g) (d':=d) (t':=t) (ch:=[]) un hok bare (fun b z=>absurd z (by simp)),r,q⟩
end
def tCall (sp:Sp) (dvs:List V) (E:XK) (t:TA):TE:=fun σ H Q=>t σ H fun vs H1=>sp (vs ++ dvs) H1 Q E
def tMake (C:Addr) (sp:Sp) (dvs:List V) (E:XK) (t:TA):TE:=fun σ H Q=>t σ H fun vs H1=>∀ x dx,H1 x=none→H1 dx=none→dx≠x →
  sp (.ref x :: (vs ++ dvs)) (upd (upd H1 dx (.own x)) x (.ins C dx [])) (fun v H2=>v=.non∧Q (.ref x) H2) E
def Binds (K:PySem.W.Frag) (fd:FuncData) (ps:List Str) (ds:List Value):Prop :=
  ∀ (s:Shared) (us:List Value),K.In s.heap→(us ++ ds).length=ps.length→BindsTo s fd ⟨us,[]⟩ (ps.zip (us ++ ds))
theorem Binds.all {K:PySem.W.Frag} {fd:FuncData} {ps:List Str} (h:∀ us:List Value,us.length=ps.length→bindArgs fd ⟨us,[]⟩=pure (ps.zip us)):Binds K fd ps []:=fun s us _ hl=>by
  rw [List.append_nil] at hl ⊢
  exact .of_eq (h us hl)
def Passes (CX:CXT) (X:Cx) (E:XK):Prop:=∀ (pins:List (Addr × Obj)) (σ:St) (H:Hp) (s:Shared) (e:Value) (s':Shared),Inv X pins σ H s→CX X.stack H s E e s'→X.xe e s'
section
variable {X : Cx} {CX : CXT} {k : Nat} {f C : Addr} {fd : FuncData} {ps : List Str} {sp : Sp} {dvs : List V} {ds : List Value} {E : XK} {x m : Str} {p pos apos : Pos} {e o : Expr} {es : List Expr} {ta : TE} {t : TA}
theorem run_fn {pins:List (Addr × Obj)} {σ:St} {H:Hp} {s:Shared} {Q:VK} {us:List Value} {vs:List V} (F:FnOk X.prog X.w X.K X.mg X.base CX k f fd ps sp) (hr:Room k X.A) (hb:Binds X.K fd ps ds) (hd:Vals dvs ds) (hx:Passes CX X E)
    (I:Inv X pins σ H s) (r:Vals vs us) (h:sp (vs ++ dvs) H Q E):wpAny (model X.prog X.w) X.A (call (.ref f) us) (EP X pins σ Q) X.xe s:=by
  have r2:Vals (vs ++ dvs) (us ++ ds):=r.append hd
  have hl:(us ++ ds).length=ps.length:=by rw [← r2.length]; exact F.len _ _ _ _ h
  refine wpAny_call (codeAny_mono (F.run X.A X.stack s H ⟨us,[]⟩ (us ++ ds) (vs ++ dvs) Q E hr I.env0 (hb s us I.kIn hl) r2 h) fun r s' hq=>?_)
  cases r with
  | error e=>exact hx pins σ H s e s' I hq
  | ok fl =>
    cases fl with
    | ret u=>exact I.after hq
    | next=>exact False.elim hq
    | brk=>exact False.elim hq
    | cont=>exact False.elim hq
theorem pe_call (F:FnOk X.prog X.w X.K X.mg X.base CX k f fd ps sp) (hr:Room k X.A) (hg:Gl X x) (hm:X.mg x=some (.ref f)) (hk:PySem.W.keepIn X.K (.ref f)=true) (hb:Binds X.K fd ps ds) (hd:Vals dvs ds) (hx:Passes CX X E)
    (ha:PA X (e :: es) t) (hdb:(x == ("__debug__":Str))=false:=by decide) (he:starEach (e :: es) X.env=(false,eval e X.env) :: starEach es X.env:=by rfl) (hpl:(backTo pos (starEach es X.env)).any (·.1)=false:=by rfl) :
    PE X (.Call (.Name x p) (e :: es) [] pos) (tCall sp dvs E t):=by
  intro pins s σ H Q I h
  refine wpAny_Call_Name_kw (ld_glob I hg hm ?_ hdb)
  refine PySem.W.callWith_K (h₀:=X.base) I.ok.mod.kin hk (thn (ha pos pins s σ H _ I h) fun us s1 ⟨vs,H1,I1,r,q⟩=>⟨I1.kIn,?_⟩) he hpl
  exact run_fn F hr hb hd hx I1 r q
structure Mk (K:PySem.W.Frag) (C f:Addr):Prop where
  makes:PySem.W.makesIn K C=true
  init:PySem.W.findIn K (.ref C) "__init__"=some (some (.ref f))
  fn:PySem.W.isFn K (.ref f)=true
  kp:PySem.W.keepIn K (.ref C)=true
theorem run_make {pins:List (Addr × Obj)} {σ:St} {H:Hp} {s:Shared} {Q:VK} {us:List Value} {vs:List V} (M:Mk X.K C f) (F:FnOk X.prog X.w X.K X.mg X.base CX k f fd ps sp) (hr:Room (k + 1) X.A) (hb:Binds X.K fd ps ds) (hd:Vals dvs ds)
    (hx:Passes CX X E) (I:Inv X pins σ H s) (r:Vals vs us)
    (h:∀ x dx,H x=none→H dx=none→dx≠x→sp (.ref x :: (vs ++ dvs)) (upd (upd H dx (.own x)) x (.ins C dx [])) (fun v H2=>v=.non∧Q (.ref x) H2) E) :
    wpAny (model X.prog X.w) X.A (call (.ref C) us) (EP X pins σ Q) X.xe s:=by
  have hq:=h (s.heap.objs.size + 1) s.heap.objs.size (I.hok.fresh (Nat.le_succ _)) (I.hok.fresh (Nat.le_refl _)) (Nat.ne_of_lt (Nat.lt_succ_self _))
  have I2:=Inv.made (C:=C) I
  have r2:Vals (V.ref (s.heap.objs.size + 1) :: (vs ++ dvs)) (Value.ref (s.heap.objs.size + 1) :: (us ++ ds)):=.cons rfl (r.append hd)
  have hl:(Value.ref (s.heap.objs.size + 1) :: us ++ ds).length=ps.length:=by
    have e:=r2.length
    rw [F.len _ _ _ _ hq] at e
    exact e.symm
  refine wpAny_call (make_map (f:=f) I.kIn M.makes M.init (beq_iff_eq.mp M.fn) (codeAny_mono (F.run _ X.stack _ _ ⟨Value.ref (s.heap.objs.size + 1) :: us,[]⟩ (Value.ref (s.heap.objs.size + 1) :: (us ++ ds)) _ _ E (hr.make C us [])
    (I2.env0.make C us []) (hb _ (Value.ref (s.heap.objs.size + 1) :: us) I2.kIn hl) r2 hq) fun r s' hq'=>?_))
  cases r with
  | error e=>exact hx pins σ _ _ e s' I2 hq'
  | ok fl =>
    cases fl with
    | ret u =>
      obtain ⟨v,H',I3,rv,ev,q3⟩:=I2.after hq'
      subst ev
      exact ⟨rv,⟨V.ref (s.heap.objs.size + 1),H',I3,rfl,q3⟩⟩
    | next=>exact False.elim hq'
    | brk=>exact False.elim hq'
    | cont=>exact False.elim hq'
theorem pe_make (M:Mk X.K C f) (F:FnOk X.prog X.w X.K X.mg X.base CX k f fd ps sp) (hr:Room (k + 1) X.A) (hg:Gl X x) (hm:X.mg x=some (.ref C)) (hb:Binds X.K fd ps ds) (hd:Vals dvs ds) (hx:Passes CX X E)
    (ha:PA X (e :: es) t) (hdb:(x == ("__debug__":Str))=false:=by decide) (he:starEach (e :: es) X.env=(false,eval e X.env) :: starEach es X.env:=by rfl) (hpl:(backTo pos (starEach es X.env)).any (·.1)=false:=by rfl) :
    PE X (.Call (.Name x p) (e :: es) [] pos) (tMake C sp dvs E t):=by
  intro pins s σ H Q I h
  refine wpAny_Call_Name_kw (ld_glob I hg hm ?_ hdb)
  refine PySem.W.callWith_K (h₀:=X.base) I.ok.mod.kin M.kp (thn (ha pos pins s σ H _ I h) fun us s1 ⟨vs,H1,I1,r,q⟩=>⟨I1.kIn,?_⟩) he hpl
  exact run_make M F hr hb hd hx I1 r q
end
section
variable {X : Cx} {CX : CXT} {k : Nat} {f C : Addr} {fd : FuncData} {ps ks : List Str} {sp : Sp} {E : XK} {x m : Str} {p pos apos kpos : Pos} {e o : Expr} {es : List Expr} {kws : List Keyword} {te ta : TE} {t tk : TA} {nm : Option Str}
structure KBinds (K:PySem.W.Frag) (fd:FuncData) (ps ks:List Str) (g:List Value→List Value→List Value) (gV:List V→List V→List V):Prop where
  to:∀ (s:Shared) (us ws:List Value),K.In s.heap→(g us ws).length=ps.length→BindsTo s fd ⟨us,ks.zip ws⟩ (ps.zip (g us ws))
  rel:∀ {vs:List V} {us:List Value} {zs:List V} {ws:List Value},Vals vs us→Vals zs ws→Vals (gV vs zs) (g us ws)
variable {g : List Value → List Value → List Value} {gV : List V → List V → List V}
end
structure FnScope (N P:List Str) (sc:Scope):Prop where
  kind:sc.kind=.function
  co:sc.isCoroutine=false
  gen:sc.isGenerator=false
  nd:N.Nodup
  pre:N.take P.length=P
  par:∀ x∈P,sc.names.lookup x=some .local∨sc.names.lookup x=some .cell
  nofree:∀ y∈sc.names,y.2≠.free
theorem bindL_out {kindOf:Str→Option NameKind} {x:Str}:∀ {binds:List (Str × Value)} {m:Str→Option Value},(∀ v,(x,v) ∉ binds)→bindL kindOf binds m x=m x
  | [],_,_=>rfl
  | (n,v) :: r,m,h=>by
    unfold bindL
    rw [bindL_out fun w hw=>h w (List.mem_cons_of_mem _ hw)]
    split
    · have:x≠n:=by rintro rfl; exact h v List.mem_cons_self
      simp [this]
    · rfl
theorem bindC_out {kindOf:Str→Option NameKind} {x:Str}:∀ {binds:List (Str × Value)} {m:Str→Option Value},(∀ v,(x,v) ∉ binds)→bindC kindOf binds m x=m x
  | [],_,_=>rfl
  | (n,v) :: r,m,h=>by
    unfold bindC
    rw [bindC_out fun w hw=>h w (List.mem_cons_of_mem _ hw)]
    split
    · rfl
    · have:x≠n:=by rintro rfl; exact h v List.mem_cons_self
      simp [this]
theorem bindL_get {kindOf:Str→Option NameKind} {x:Str} {v:Value}:∀ {P:List Str} {vs:List Value} {i:Nat} {m:Str→Option Value},P.Nodup→P[i]?=some x→vs[i]?=some v→kindOf x=some .local →
    bindL kindOf (P.zip vs) m x=some v
  | [],_,_,_,_,h,_,_=>by simp at h
  | _ :: _,[],_,_,_,_,h,_=>by simp at h
  | p :: P,w :: vs,0,m,nd,h1,h2,hk=>by
    simp at h1 h2; subst h1; subst h2
    show bindL kindOf ((p,w) :: P.zip vs) m p=_
    unfold bindL
    rw [bindL_out fun v hv=>(List.nodup_cons.mp nd).1 (List.of_mem_zip hv).1,if_pos hk]
    simp
  | p :: P,w :: vs,i + 1,m,nd,h1,h2,hk=>by
    show bindL kindOf ((p,w) :: P.zip vs) m x=_
    unfold bindL
    exact bindL_get (i:=i) (List.nodup_cons.mp nd).2 (by simpa using h1) (by simpa using h2) hk
theorem bindC_get {kindOf:Str→Option NameKind} {x:Str} {v:Value}:∀ {P:List Str} {vs:List Value} {i:Nat} {m:Str→Option Value},P.Nodup→P[i]?=some x→vs[i]?=some v→kindOf x≠some .local →
    bindC kindOf (P.zip vs) m x=some v
  | [],_,_,_,_,h,_,_=>by simp at h
  | _ :: _,[],_,_,_,_,h,_=>by simp at h
  | p :: P,w :: vs,0,m,nd,h1,h2,hk=>by
    simp at h1 h2; subst h1; subst h2
    show bindC kindOf ((p,w) :: P.zip vs) m p=_
    unfold bindC
    rw [bindC_out fun v hv=>(List.nodup_cons.mp nd).1 (List.of_mem_zip hv).1,if_neg hk]
    simp
  | p :: P,w :: vs,i + 1,m,nd,h1,h2,hk=>by
    show bindC kindOf ((p,w) :: P.zip vs) m x=_
    unfold bindC
    exact bindC_get (i:=i) (List.nodup_cons.mp nd).2 (by simpa using h1) (by simpa using h2) hk
def start (N:List Str) (vs:List V):St:=vs.map some ++ List.replicate (N.length - vs.length) none
def cxOf (CX:CXT) (P:Program) (w:World) (K:PySem.W.Frag) (mg:Str→Option Value) (base:Heap) (N:List Str) (qual:Str) (scope:Scope) (f:Addr) (cd:Value) (A:Around) (outer:List Env) (s:Shared) (H:Hp) (E:XK):Cx where
  prog:=P
  w:=w
  K:=K
  mg:=mg
  base:=base
  A:=A.deeper (envOfC qual scope s.heap.objs.size f cd)
  N:=N
  s₀:=s
  H₀:=H
  env:=envOfC qual scope s.heap.objs.size f cd
  outer:=outer
  stack:=envOfC qual scope s.heap.objs.size f cd :: outer
  ex:=[]
  calm:=true
  fn:=fun _=>true
  pn:=[]
  kn:=fun _=>Option.none
  xe:=fun e s'=>wpAny (model P w) (A.deeper (envOfC qual scope s.heap.objs.size f cd)) (leaving (envOfC qual scope s.heap.objs.size f cd) e) (fun _ s''=>CX outer H s E e s'') (fun e' s''=>CX outer H s E e' s'') s'
theorem cell_has {sc:Scope} {n:Nat} {x:Str} (h:sc.names.lookup x=some .cell):∃ c,(cellsFrom n sc.names []).lookup x=some c:=by
  have q:=PySem.W.cellsFrom_some sc.names n [] (.inl h)
  exact Option.isSome_iff_exists.mp q
theorem inv_start {CX:CXT} {P:Program} {w:World} {K:PySem.W.Frag} {mg:Str→Option Value} {base:Heap} {N ps:List Str} {qual:Str} {scope:Scope} {f:Addr} {cd:Value} {A:Around} {outer:List Env} {s s1:Shared} {H:Hp} {E:XK} {us:List Value} {vs:List V}
    (S:FnScope N ps scope) (hd:A.handled=none) (e0:Env0 P w K mg base A outer s H) (hl:vs.length=ps.length) (r:Vals vs us)
    (x:InCallC s s.heap.objs.size (bindL (envOfC qual scope s.heap.objs.size f cd).kindOf (ps.zip us) fun _=>none) (cellsFrom (s.heap.objs.size + 1) scope.names []) (bindC (envOfC qual scope s.heap.objs.size f cd).kindOf (ps.zip us) fun _=>none) s1) :
    Inv (cxOf CX P w K mg base N qual scope f cd A outer s H E) [] (start N vs) H s1:=by
  have hpl:ps.length≤N.length:=by have:=congrArg List.length S.pre; rw [List.length_take] at this; omega
  obtain ⟨h1,tk,rfl,hk⟩:=x.done
  have noA:∀ b:Addr,b ∉ (cxOf CX P w K mg base N qual scope f cd A outer s H E).ex:=fun b z=>absurd (show b∈([]:List Addr) from z) (by simp)
  refine ⟨⟨e0.mod,S.kind,rfl,rfl,Nat.le_refl _,fun y z c h1 h2=>?_,fun y hy=>?_,fun y c _ h=>?_,fun _=>hd,Around.frames_deeper e0.frames,.inr ⟨rfl,rfl⟩,fun b z=>absurd z (noA b),e0.bs,e0.bsz,fun b _ _=>noA b,fun b z=>absurd z (noA b),e0.funs,e0.frf⟩,
    rfl,e0.bare,Un.kept hk,⟨_,x.toInCall.ns,fun i y v h1 h2 h3=>?_⟩,fun y c h=>⟨_,x.cell y c h⟩,e0.hok.fresh (Nat.le_refl _),fun y c h=>?_,fun p hp=>absurd (show p∈([]:List (Addr × Obj)) from hp) (by simp),e0.hok.kept hk,?_,fun _ _ z=>nomatch z⟩
  · exact name_of_addr x.apart (PySem.mem_of_lookup h1) (PySem.mem_of_lookup h2)
  · have hy:scope.names.lookup y=some .cell∨scope.names.lookup y=some .free:=hy
    rcases hy with hy | hy
    · exact cell_has hy
    · exact absurd rfl (S.nofree _ (PySem.mem_of_lookup hy))
  · exact Nat.le_of_lt (x.above y c (PySem.mem_of_lookup h))
  · have hi:i < vs.length:=by
      unfold start at h2
      by_cases hi:i < vs.length
      · exact hi
      · rw [List.getElem?_append_right (by simpa using hi)] at h2
        rw [List.getElem?_replicate] at h2
        split at h2 <;> cases h2
    have ha:vs[i]?=some v:=by
      unfold start at h2
      rw [List.getElem?_append_left (by simpa using hi),List.getElem?_map] at h2
      cases e:vs[i]? with
      | none=>rw [e] at h2; cases h2
      | some a=>rw [e] at h2; cases h2; rfl
    obtain ⟨u,hu,rv⟩:=r.get ha
    have hp:ps[i]?=some y:=by
      rw [← S.pre,List.getElem?_take_of_lt (by omega)]; exact h1
    have ndP:ps.Nodup:=by rw [← S.pre]; exact S.nd.sublist (List.take_sublist _ _)
    refine ⟨u,rv,?_⟩
    rcases S.par y (List.mem_of_getElem? hp) with k | k
    · exact .inl ⟨k,bindL_get ndP hp hu k⟩
    · obtain ⟨c,e⟩:=cell_has (n:=s.heap.objs.size + 1) k
      refine .inr ⟨.inl k,c,e,?_⟩
      have q:=x.cell y c e
      rw [bindC_get ndP hp hu (by show scope.names.lookup y≠_; rw [k]; decide)] at q
      exact q
  · exact e0.hok.fresh (Nat.le_of_lt (x.above y c (PySem.mem_of_lookup h)))
  · unfold start
    show _=N.length
    rw [List.length_append,List.length_map,List.length_replicate]
    omega
theorem fn_of {CX:CXT} {P:Program} {w:World} {K:PySem.W.Frag} {mg:Str→Option Value} {base:Heap} {k:Nat} {f:Addr} {name qual:Str} {params:Arguments} {body:List Stmt} {scope:Scope} {dV kV doc pm cdv ct oc:Value} {an od:Option Addr}
    {osl:Array (Option Value)} {N ps:List Str} {sp:Sp} (lk:K.lookup f=some ⟨oc,od,.func (PySem.W.fnOf name qual params body scope dV kV doc pm an cdv ct),osl⟩) (hcd:PySem.W.codeIn K cdv qual=true) (S:FnScope N ps scope)
    (len:∀ vs H Q E,sp vs H Q E→vs.length=ps.length)
    (hbody:∀ (A:Around) (outer:List Env) (s:Shared) (H:Hp) (vs:List V) (Q:VK) (E:XK),Room k (A.deeper (envOfC qual scope s.heap.objs.size f cdv))→sp vs H Q E →
      ∃ t,PSs (cxOf CX P w K mg base N qual scope f cdv A outer s H E) body t∧t { nx:=fun _ H'=>Q .non H',rt:=Q } (start N vs) H) :
    FnOk P w K mg base CX (k + 1) f (PySem.W.fnOf name qual params body scope dV kV doc pm an cdv ct) ps sp:=by
  refine ⟨len,fun A outer s H args us vs Q E hr e0 hb r hsp=>?_⟩
  have hl:=len _ _ _ _ hsp
  have KX:K.In s.heap:=e0.mod.kin.keeps fun b o e=>(e0.bs b o e).1
  have lim:s.heap.NoLimit:=e0.mod.nolimit.keeps fun b o e=>(e0.bs b o e).1
  have hkind:∀ y∈ps.zip us,scope.names.lookup y.1=some .local∨(scope.names.lookup y.1=some .cell∧((cellsFrom (s.heap.objs.size + 1) scope.names []).lookup y.1).isSome=true):=fun ⟨n,v⟩ hy=>by
    rcases S.par n (List.of_mem_zip hy).1 with q | q
    · exact .inl q
    · exact .inr ⟨q,PySem.W.cellsFrom_some _ _ _ (.inl q)⟩
  refine codeAny_call_function hr.depth (KX _ _ lk) rfl S.co S.gen rfl (PySem.W.codeRec_of KX hcd) (hb _ _ _ _ ?_)
  refine wpAny_newFunctionEnv_cells S.kind hkind fun env he s1 x=>?_
  subst he
  refine ⟨lim.keeps x.toInCall.keep,codeAny_func ?_⟩
  obtain ⟨t,ht,hq⟩:=hbody A outer s H vs Q E (hr.deeper _) hsp
  have I:Inv (cxOf CX P w K mg base N qual scope f cdv A outer s H E) [] (start N vs) H s1:=inv_start S hr.hd e0 hl r x
  refine wpAny_mono (ht [] s1 (start N vs) H _ I hq) (fun fl s' hs=>?_) fun e s' hs=>hs
  have fin:∀ {σ':St} {H':Hp} {v:V} {u:Value},Inv (cxOf CX P w K mg base N qual scope f cdv A outer s H E) [] σ' H' s'→RelV v u→Q v H'→CE outer P w H s Q u s' :=
    fun {σ' H' v u} J rv q=>⟨v,H',J.os,J.bare,J.base,J.hok,rv,q⟩
  cases fl with
  | ret u =>
    obtain ⟨v,σ',H',J,rv,q⟩:=hs
    exact fin J rv q
  | next =>
    obtain ⟨σ',H',J,q⟩:=hs
    exact fin (v:=V.non) (u:=Value.none) J rfl q
  | brk =>
    obtain ⟨_,_,_,q⟩:=hs
    exact False.elim q
  | cont =>
    obtain ⟨_,_,_,q⟩:=hs
    exact False.elim q
end L2
namespace L2
open PySem PySem.Spec PyProof.Rows
section
variable {X : Cx} {x : Str} {p pos : Pos} {e : Expr} {es : List Expr} {t : TA} {id T : String} {r : List V → Hp → VK → Prop}
def tCB (r:List V→Hp→VK→Prop) (t:TA):TE:=fun σ H Q=>t σ H fun vs H1=>r vs H1 Q
theorem pe_callB (hc:CallR X (.builtin id) r) (hg:Gl X x) (hm:X.mg x=none) (hv:bootBuiltins x=some (.builtin id)) (ha:PA X (e :: es) t) (hn:x≠"__name__":=by decide) (hdb:(x == ("__debug__":Str))=false:=by decide)
    (he:starEach (e :: es) X.env=(false,eval e X.env) :: starEach es X.env:=by rfl) (hpl:(backTo pos (starEach es X.env)).any (·.1)=false:=by rfl):PE X (.Call (.Name x p) (e :: es) [] pos) (tCB r t):=by
  intro pins s σ H Q I h
  refine wpAny_Call_Name_kw (ld_blt I hg hm hv ?_ hn hdb)
  exact PyProof.Rows.callWith_builtin1 (thn (ha pos pins s σ H _ I h) fun us s1 ⟨vs,H1,I1,r1,q1⟩=>hc pins s1 σ H1 vs us Q I1 r1 q1) he hpl
theorem pe_callTy (hc:CallR X (.type T) r) (hg:Gl X x) (hm:X.mg x=none) (hv:bootBuiltins x=some (.type T)) (ha:PA X (e :: es) t) (hn:x≠"__name__":=by decide) (hdb:(x == ("__debug__":Str))=false:=by decide)
    (he:starEach (e :: es) X.env=(false,eval e X.env) :: starEach es X.env:=by rfl) (hpl:(backTo pos (starEach es X.env)).any (·.1)=false:=by rfl):PE X (.Call (.Name x p) (e :: es) [] pos) (tCB r t):=by
  intro pins s σ H Q I h
  refine wpAny_Call_Name_kw (ld_blt I hg hm hv ?_ hn hdb)
  exact PyProof.Rows.callWith_type1 (thn (ha pos pins s σ H _ I h) fun us s1 ⟨vs,H1,I1,r1,q1⟩=>hc pins s1 σ H1 vs us Q I1 r1 q1) he hpl
end
end L2
namespace HT
open PySem PyProof.Rows
section
open PySem.SeqAt
open PySem.AutoSeq1 (wpAny_loadPart')
open PySem.MeetsSeq PySem.MeetsSeq2 PySem.MeetsSeq3
end
section
variable {prog : Program} {w : World} {A : Around} {E : Value → Shared → Prop} {s : Shared}
end
end HT
namespace L2
open PySem PySem.Spec PyProof.Rows
abbrev TO:=St→Hp→(Option Int→Hp→Prop)→Prop
def PO (X:Cx) (e:Option Expr) (t:TO):Prop :=
  ∀ (pins:List (Addr × Obj)) (s:Shared) (σ:St) (H:Hp) (Q:Option Int→Hp→Prop),Inv X pins σ H s→t σ H Q →
    wpAny (model X.prog X.w) X.A (evalPart e X.env) (fun u s'=>∃ o H',Inv X pins σ H' s'∧IsPart u o∧Q o H') X.xe s
section
variable {X : Cx} {e : Expr} {te : TE} {lo hi : Option Expr} {tl th : TO} {pos p2 : Pos}
end
end L2
namespace L2
open PySem PySem.Spec PyProof.Rows
def ixN (n:Nat) (i:Int):Option Nat:=if 0≤i then (if i < n then some i.toNat else none) else if -(n:Int)≤i then some (i + n).toNat else none
def atI {α:Type} (xs:List α) (i:Int):Option α:=(ixN xs.length i).bind fun j=>xs[j]?
theorem ixN_seq {n:Nat} {i:Int} {j:Nat} (h:ixN n i=some j):seqIndex? i n=some j∧j < n∧-(n:Int)≤i∧i < n:=by
  unfold ixN at h
  by_cases h0:0≤i
  · rw [if_pos h0] at h
    by_cases h1:i < n
    · rw [if_pos h1] at h
      have e:i.toNat=j:=Option.some.inj h
      exact ⟨by rw [seqIndex_of h0 h1,e],by omega,by omega,h1⟩
    · rw [if_neg h1] at h; cases h
  · rw [if_neg h0] at h
    by_cases h1:-(n:Int)≤i
    · rw [if_pos h1] at h
      have e:(i + n).toNat=j:=Option.some.inj h
      exact ⟨by rw [seqIndex_neg (by omega) h1,e],by omega,h1,by omega⟩
    · rw [if_neg h1] at h; cases h
theorem atI_get {α:Type} {xs:List α} {i:Int} {v:α} (h:atI xs i=some v):∃ j,seqIndex? i xs.length=some j∧xs[j]?=some v∧j < xs.length∧-(xs.length:Int)≤i∧i < xs.length:=by
  unfold atI at h
  cases e:ixN xs.length i with
  | none=>rw [e] at h; cases h
  | some j =>
    rw [e] at h
    obtain ⟨h1,h2,h3,h4⟩:=ixN_seq e
    exact ⟨j,h1,h,h2,h3,h4⟩
theorem atI_nat {α:Type} {xs:List α} {j:Nat} {v:α} (h:xs[j]?=some v):atI xs (j:Int)=some v:=by
  have hj:j < xs.length:=(List.getElem?_eq_some_iff.mp h).1
  have e:ixN xs.length (j:Int)=some j:=by
    unfold ixN
    rw [if_pos (by omega),if_pos (by omega)]; simp
  unfold atI; rw [e]; exact h
theorem atI_last {α:Type} (xs:List α) (v:α):atI (xs ++ [v]) (-1)=some v:=by
  have hl:(xs ++ [v]).length=xs.length + 1:=by simp
  have e:ixN (xs ++ [v]).length (-1)=some xs.length:=by
    unfold ixN
    rw [hl,if_neg (by decide),if_pos (by omega)]
    congr 1
    omega
  unfold atI
  rw [e]
  show (xs ++ [v])[xs.length]?=some v
  simp
def PlainIx (b:Expr):Prop:=∀ o i,subscripted b false o i=operate [o,i] (getItem o i)
def IxR (X:Cx) (r:R2):Prop :=
  ∀ (value slice:Expr) (pins:List (Addr × Obj)) (s:Shared) (σ:St) (H:Hp) (x y:V) (v u:Value) (Q:VK),Inv X pins σ H s→RelV x v→RelV y u→r x y H Q →
    subscripted slice false v u=operate [v,u] (getItem v u)→wpAny (model X.prog X.w) X.A (subscriptTail value slice v u) (EP X pins σ Q) X.xe s
def MtR (X:Cx) (id:String) (r:V→List V→Hp→VK→Prop):Prop :=
  ∀ (pins:List (Addr × Obj)) (s:Shared) (σ:St) (H:Hp) (x:V) (xs:List V) (v:Value) (us:List Value) (Q:VK),Inv X pins σ H s→RelV x v→Vals xs us→r x xs H Q →
    wpAny (model X.prog X.w) X.A (call (.builtin id) (v :: us)) (EP X pins σ Q) X.xe s
section
variable {X : Cx} {a b : Expr} {ta tb : TE} {pos : Pos}
theorem pe_ix {r:R2} (hr:IxR X r) (ha:PE X a ta) (hb:PE X b tb) (hs:PlainIx b):PE X (.Subscript a b pos) (tOp r ta tb):=by
  intro pins s σ H Q I h
  exact Subscript_ (binT ha hb I h fun v u s2 x y H2 I2 rx ry q=>hr a b pins s2 σ H2 x y v u Q I2 rx ry q (hs _ _))
def rIxL (K:PySem.W.Frag):R2:=fun x y H Q=>∃ p xs i v,x=.ref p∧y=.int i∧SqL K H p xs∧atI xs i=some v∧Q v H
def rIxT (K:PySem.W.Frag):R2:=fun x y H Q=>∃ p xs i v,x=.ref p∧y=.int i∧SqT K H p xs∧atI xs i=some v∧Q v H
theorem ix_list:IxR X (rIxL X.K):=by
  intro value slice pins s σ H x y v u Q I rx ry h hs
  obtain ⟨p,xs,i,z,rfl,rfl,hq,he,q⟩:=h
  cases rx
  obtain ⟨t,rfl⟩:=ry
  obtain ⟨its,r,pl,hz⟩:=I.list hq
  obtain ⟨j,h1,h2,h3,h4,h5⟩:=atI_get he
  obtain ⟨w,ew,rw'⟩:=r.get h2
  have hl:=r.length
  have hn:=line63
  have fin:EP X pins σ Q w s:=⟨z,H,I,rw',q⟩
  by_cases h0:0≤i
  · have hj:i.toNat=j:=by
      rw [seqIndex_of h0 h5] at h1
      exact Option.some.inj h1
    exact item_listR pl.isList h0 (by omega) (by rw [hj]; simpa using ew) fin hs
  · have hj:(i + (its.toArray.size:Int)).toNat=j:=by
      rw [seqIndex_neg (by omega) h4] at h1
      rw [List.size_toArray,← hl]
      exact Option.some.inj h1
    exact subscriptTail_builtinR (x:=w) pl.isList.typeIs slot_list_getitem.lookup
      (wpAny_getItem_list_neg (Q:=fun r s'=>r=w∧EP X pins σ Q r s') pl.isList (by omega) (by rw [List.size_toArray] <;> omega) (by omega) (by rw [hj]; simpa using ew) ⟨rfl,fin⟩) hs
theorem ix_tup:IxR X (rIxT X.K):=by
  intro value slice pins s σ H x y v u Q I rx ry h hs
  obtain ⟨p,xs,i,z,rfl,rfl,hq,he,q⟩:=h
  cases rx
  obtain ⟨t,rfl⟩:=ry
  obtain ⟨its,r,pl,hz⟩:=I.tuple hq
  obtain ⟨j,h1,h2,h3,h4,h5⟩:=atI_get he
  obtain ⟨w,ew,rw'⟩:=r.get h2
  have hl:=r.length
  have hn:=line63
  have fin:EP X pins σ Q w s:=⟨z,H,I,rw',q⟩
  exact subscriptTail_builtinR (x:=w) pl.typeIs slot_tuple_getitem.lookup
    (getItem_tuple (j:=j) (Q:=fun r s'=>r=w∧EP X pins σ Q r s') pl (by omega) (by omega) (by rw [List.size_toArray,← hl]; exact h1) (by simpa using ew) ⟨rfl,fin⟩) hs
theorem mapSeq_set (its:List Value) (n j:Nat) (u:Value):Obj.mapSeq (·.setIfInBounds j u) { cls:=.type "list",data:=.seq its.toArray n }={ cls:=.type "list",data:=.seq (its.set j u).toArray n }:=by
  simp [Obj.mapSeq]
theorem Inv.lst {pins:List (Addr × Obj)} {σ:St} {H:Hp} {s:Shared} {p:Addr} {xs:List V} (I:Inv X pins σ H s) (h:H p=some (.lst xs)) :
    ∃ (its:List Value) (n:Nat),Vals xs its∧s.heap.get? p=some { cls:=.type "list",data:=.seq its.toArray n }∧xs.length≤sizeLine:=by
  obtain ⟨z,its,n,r,e⟩:=I.hok p _ h
  exact ⟨its,n,r,e,z⟩
theorem Inv.lstUpd {pins:List (Addr × Obj)} {σ:St} {H:Hp} {s:Shared} {p:Addr} {xs ys:List V} {its its':List Value} {n n':Nat} {f:Obj→Obj} (I:Inv X pins σ H s) (h:H p=some (.lst xs))
    (ho:s.heap.get? p=some { cls:=.type "list",data:=.seq its.toArray n }) (hf:f { cls:=.type "list",data:=.seq its.toArray n }={ cls:=.type "list",data:=.seq its'.toArray n' }) (r:Vals ys its') (hz:ys.length≤sizeLine) (t:Nat) :
    Inv X pins σ (upd H p (.lst ys)) { s with heap:=s.heap.update p f,toks:=t }:=by
  have e:(s.heap.update p f).get? p=some { cls:=.type "list",data:=.seq its'.toArray n' }:=by
    rw [Heap.get?_update_self f ho (by rw [hf] <;> rfl),hf]
  refine I.write (x:=p) (e:=p) (by rw [h]; trivial) (.inl rfl) (fun b u hb q=>(Heap.get?_update_other _ _ (Ne.symm hb)).trans q) ⟨_,e⟩ ?_
  exact ⟨hz,its',n',r,e⟩
def rSetL:V→V→V→Hp→(Hp→Prop)→Prop:=fun o i v H Q=>∃ p xs k j,o=.ref p∧i=.int k∧H p=some (.lst xs)∧ixN xs.length k=some j∧Q (upd H p (.lst (xs.set j v)))
theorem set_list:PSet X rSetL:=by
  intro pins s σ H o i v ov iv u Q I ro ri rv h
  obtain ⟨p,xs,k,j,rfl,rfl,hp,hj,q⟩:=h
  cases ro
  obtain ⟨t,rfl⟩:=ri
  obtain ⟨its,n,r,ho,hz⟩:=I.lst hp
  obtain ⟨h1,h2,h3,h4⟩:=ixN_seq hj
  have hl:=r.length
  have hn:=line63
  have I':Inv X pins σ (upd H p (.lst (xs.set j v))) { s with heap:=s.heap.update p (Obj.mapSeq (·.setIfInBounds j u)) } :=
    I.lstUpd hp ho (mapSeq_set its n j u) (r.set rv j) (by rw [List.length_set]; exact hz) s.toks
  by_cases h0:0≤k
  · have hk:k.toNat=j:=by
      rw [seqIndex_of h0 h4] at h1
      exact Option.some.inj h1
    exact PySem.W.ki_setAt ho h0 (by omega) (by rw [List.size_toArray,← hl]; exact h4) (by rw [hk]; exact ⟨_,I',q⟩)
  · have hk:(k + (its.toArray.size:Int)).toNat=j:=by
      rw [seqIndex_neg (by omega) h3] at h1
      rw [List.size_toArray,← hl]
      exact Option.some.inj h1
    exact PySem.W.ki_setBack ho (by omega) (by rw [List.size_toArray,← hl]; exact h3) (by omega) (by rw [hk]; exact ⟨_,I',q⟩)
def flatV:V→Bool
  | .non=>true
  | .bl _=>true
  | .int _=>true
  | .str _=>true
  | _=>false
def eqV:V→V→Bool
  | .non,.non=>true
  | .bl a,.bl b=>a == b
  | .bl a,.int b=>(if a then 1 else 0) == b
  | .int a,.bl b=>a == (if b then 1 else 0)
  | .int a,.int b=>a == b
  | .str a,.str b=>a == b
  | _,_=>false
theorem eqAt_V {A:Around} {s:Shared} {y x:V} {u v:Value} (ry:RelV y u) (rx:RelV x v) (fy:flatV y=true) (fx:flatV x=true):SeqAt.EqAt A s u v (eqV y x):=by
  cases y with
  | non =>
    cases ry
    cases x with
    | non=>cases rx; exact SeqAt.EqAt.same _
    | bl b=>cases rx; exact SeqAt.EqAt.none_bool b
    | int b=>obtain ⟨t,rfl⟩:=rx; exact SeqAt.EqAt.none_int b t
    | str b=>obtain ⟨t,rfl⟩:=rx; exact SeqAt.EqAt.none_str b t
    | _=>exact absurd (show false=true from fx) Bool.false_ne_true
  | bl a =>
    cases ry
    cases x with
    | non=>cases rx; exact SeqAt.EqAt.bool_none a
    | bl b=>cases rx; exact SeqAt.EqAt.bool_bool a b
    | int b=>obtain ⟨t,rfl⟩:=rx; exact SeqAt.EqAt.bool_int a b t
    | str b=>obtain ⟨t,rfl⟩:=rx; exact SeqAt.EqAt.bool_str a b t
    | _=>exact absurd (show false=true from fx) Bool.false_ne_true
  | int a =>
    obtain ⟨t',rfl⟩:=ry
    cases x with
    | non=>cases rx; exact SeqAt.EqAt.int_none a t'
    | bl b=>cases rx; exact SeqAt.EqAt.int_bool a t' b
    | int b=>obtain ⟨t,rfl⟩:=rx; exact SeqAt.EqAt.int_int a t' b t
    | str b=>obtain ⟨t,rfl⟩:=rx; exact SeqAt.EqAt.int_str a t' b t
    | _=>exact absurd (show false=true from fx) Bool.false_ne_true
  | str a =>
    obtain ⟨t',rfl⟩:=ry
    cases x with
    | non=>cases rx; exact SeqAt.EqAt.str_none a t'
    | bl b=>cases rx; exact SeqAt.EqAt.str_bool a t' b
    | int b=>obtain ⟨t,rfl⟩:=rx; exact SeqAt.EqAt.str_int a t' b t
    | str b=>obtain ⟨t,rfl⟩:=rx; exact SeqAt.EqAt.str_str a t' b t
    | _=>exact absurd (show false=true from fx) Bool.false_ne_true
  | _=>exact absurd (show false=true from fy) Bool.false_ne_true
def eqU (x:V) (u:Value):Bool:=match u with
  | .none=>eqV .non x
  | .bool b=>eqV (.bl b) x
  | .int i _=>eqV (.int i) x
  | .str z _=>eqV (.str z) x
  | _=>false
theorem eqU_of {x y:V} {u:Value} (r:RelV y u) (f:flatV y=true):eqU x u=eqV y x:=by
  cases y with
  | non=>cases r; rfl
  | bl b=>cases r; rfl
  | int i=>obtain ⟨t,rfl⟩:=r; rfl
  | str z=>obtain ⟨t,rfl⟩:=r; rfl
  | _=>exact absurd (show false=true from f) Bool.false_ne_true
theorem any_eqU {x:V}:∀ {xs:List V} {us:List Value},Vals xs us→xs.all flatV=true→us.any (eqU x)=xs.any fun y=>eqV y x
  | _,_,.nil,_=>rfl
  | y :: xs,u :: us,.cons r t,f=>by
    rw [List.all_cons,Bool.and_eq_true] at f
    rw [List.any_cons,List.any_cons,eqU_of r f.1,any_eqU t f.2]
theorem mem_eqAt {A:Around} {s:Shared} {x:V} {v:Value} (rx:RelV x v) (fx:flatV x=true):∀ {xs:List V} {us:List Value},Vals xs us→xs.all flatV=true→∀ u∈us,SeqAt.EqAt A s u v (eqU x u)
  | _,_,.nil,_=>fun u hu=>by cases hu
  | y :: xs,u :: us,.cons r t,f=>fun u' hu=>by
    rw [List.all_cons,Bool.and_eq_true] at f
    rcases List.mem_cons.mp hu with rfl | hu
    · rw [eqU_of r f.1]; exact eqAt_V r rx f.1 fx
    · exact mem_eqAt rx fx t f.2 u' hu
def inV (x:V) (xs:List V):Bool:=xs.any fun y=>eqV y x
def rIn (K:PySem.W.Frag) (neg:Bool):R2:=fun x y H Q=>∃ p xs,y=.ref p∧(SqL K H p xs∨SqT K H p xs)∧flatV x=true∧xs.all flatV=true∧Q (.bl (if neg then !inV x xs else inV x xs)) H
theorem op_in_seq:OpR X (compareOp .In) (rIn X.K false):=by
  intro pins s σ H x y v u Q I rx ry h
  obtain ⟨p,xs,rfl,hq,fx,fs,q⟩:=h
  cases ry
  rcases hq with hq | hq
  · obtain ⟨its,r,pl,hz⟩:=I.list hq
    refine SeqAt.in_listAt (eqU x) pl.isList (fun w hw=>mem_eqAt rx fx r fs w (by simpa using hw)) ⟨.bl _,H,I,rfl,?_⟩
    rw [show its.toArray.any (eqU x)=its.any (eqU x) by simp,any_eqU r fs]
    exact q
  · obtain ⟨its,r,pl,hz⟩:=I.tuple hq
    refine SeqAt.in_tupleAt (eqU x) pl (fun w hw=>mem_eqAt rx fx r fs w (by simpa using hw)) ⟨.bl _,H,I,rfl,?_⟩
    rw [show its.toArray.any (eqU x)=its.any (eqU x) by simp,any_eqU r fs]
    exact q
theorem call_len_seq:CallR X (.builtin "len") (fun xs H Q=>∃ p ys,xs=[.ref p]∧(SqL X.K H p ys∨SqT X.K H p ys)∧Q (.int ys.length) H):=by
  intro pins s σ H xs us Q I r h
  obtain ⟨p,ys,rfl,hq,q⟩:=h
  obtain ⟨u,rfl,rx⟩:=vals1 r
  cases rx
  have hn:=line63
  rcases hq with hq | hq
  · obtain ⟨its,r',pl,hz⟩:=I.list hq
    have hlen:=r'.length
    exact Calls.call_len_list pl.isList (by simp only [List.size_toArray] <;> omega) ⟨.int ys.length,H,I.tok _,⟨s.toks + 1,by rw [List.size_toArray,hlen]⟩,q⟩
  · obtain ⟨its,r',pl,hz⟩:=I.tuple hq
    have hlen:=r'.length
    exact len_tuple pl (by simp only [List.size_toArray] <;> omega) ⟨.int ys.length,H,I.tok _,⟨s.toks + 1,by rw [List.size_toArray,hlen]⟩,q⟩
theorem call_list_of:CallR X (.type "list") (fun xs H Q=>∃ p ys,xs=[.ref p]∧(SqL X.K H p ys∨SqT X.K H p ys)∧∀ l,H l=none→Q (.ref l) (upd H l (.lst ys))):=by
  intro pins s σ H xs us Q I r h
  obtain ⟨p,ys,rfl,hq,q⟩:=h
  obtain ⟨u,rfl,rx⟩:=vals1 r
  cases rx
  have fin:∀ (its:List Value),Vals ys its→ys.length≤sizeLine→∀ (h':Heap) (c':Nat),(∀ b o',s.heap.get? b=some o'→h'.get? b=some o') →
      h'.get? s.heap.objs.size=some { cls:=.type "list",dict:=none,data:=.seq its.toArray c',slots:=#[] }→EP X pins σ Q (.ref s.heap.objs.size) { s with heap:=h' }:=fun its r' hz h' c' kp e =>
    ⟨.ref s.heap.objs.size,_,I.laid (t':=s.toks) kp (Nat.le_refl _) (show ObjOk X.prog X.w _ h' _ (.lst ys) from ⟨hz,its,c',r',e⟩),rfl,q _ (I.hok.fresh (Nat.le_refl _))⟩
  rcases hq with hq | hq
  · obtain ⟨its,r',pl,hz⟩:=I.list hq
    have hlen:=r'.length
    obtain ⟨o,ho,hc,n,hd⟩:=pl.isList
    exact call_list_seq p (.inl rfl) ho hc hd (fun h' c' kp e=>fin its r' hz h' c' kp e) (by simp only [List.size_toArray] <;> omega)
  · obtain ⟨its,r',pl,hz⟩:=I.tuple hq
    have hlen:=r'.length
    obtain ⟨o,ho,hc,n,hd⟩:=pl
    exact call_list_seq p (.inr rfl) ho hc hd (fun h' c' kp e=>fin its r' hz h' c' kp e) (by simp only [List.size_toArray] <;> omega)
theorem call_tuple_of:CallR X (.type "tuple") (fun xs H Q=>∃ p ys,xs=[.ref p]∧((SqL X.K H p ys∧∀ l,H l=none→Q (.ref l) (upd H l (.tup ys)))∨(SqT X.K H p ys∧Q (.ref p) H))):=by
  intro pins s σ H xs us Q I r h
  obtain ⟨p,ys,rfl,h⟩:=h
  obtain ⟨u,rfl,rx⟩:=vals1 r
  cases rx
  rcases h with ⟨hq,q⟩ | ⟨hq,q⟩
  · obtain ⟨its,r',pl,hz⟩:=I.list hq
    have hlen:=r'.length
    refine call_tuple_list pl.isList (fun h' kp=>?_) (by simp only [List.size_toArray] <;> omega)
    have I1:Inv X pins σ H { s with heap:=h' }:=I.kept (t':=s.toks) kp
    have I2:Inv X pins σ (upd H h'.objs.size (.tup ys)) { s with heap:=h'.push { cls:=.type "tuple",data:=.seq its.toArray } } :=
      I1.laid (t':=s.toks) (fun b o e=>Heap.get?_push_of_some _ e) (Nat.le_refl _) (show ObjOk X.prog X.w _ _ _ (.tup ys) from ⟨hz,its,r',IsTup.new _ _⟩)
    exact ⟨.ref h'.objs.size,_,I2,rfl,q _ (I1.hok.fresh (Nat.le_refl _))⟩
  · obtain ⟨its,r',pl,hz⟩:=I.tuple hq
    exact call_tuple_same pl ⟨.ref p,H,I,rfl,q⟩
def tyV (K:PySem.W.Frag) (T:String) (x:V) (H:Hp):Prop:=match x with
  | .str _=>T="str"
  | .int _=>T="int"
  | .ref p=>(T="list"∧∃ xs,SqL K H p xs)∨(T="tuple"∧∃ o,K.lookup p=some o∧o.cls=.type "tuple"∧o.dict=none) ∨
      (T="dict"∧((∃ kvs,H p=some (.dK kvs))∨∃ kvs,H p=some (.dT kvs)))∨(T="set"∧∃ S n,H p=some (.set S n))
  | _=>False
theorem tyV_is {pins:List (Addr × Obj)} {σ:St} {H:Hp} {s:Shared} {T:String} {x:V} {v:Value} (I:Inv X pins σ H s) (r:RelV x v) (ty:tyV X.K T x H) :
    s.TypeIs v T∧∀ a,v=.ref a→∃ ob,s.heap.get? a=some ob∧ob.dict=none:=by
  cases x with
  | str z =>
    obtain ⟨t,rfl⟩:=r
    cases (show T="str" from ty)
    exact ⟨typeIs_str s z t,fun _ e=>nomatch e⟩
  | int i =>
    obtain ⟨t,rfl⟩:=r
    cases (show T="int" from ty)
    exact ⟨typeIs_int s i t,fun _ e=>nomatch e⟩
  | ref p =>
    cases r
    rcases ty with ⟨rfl,xs,hq⟩ | ⟨rfl,o,hk,hc,hd⟩ | ⟨rfl,hk⟩ | ⟨rfl,S,n,hk⟩
    · obtain ⟨its,_,pl,_⟩:=I.list hq
      refine ⟨pl.isList.typeIs,fun a e=>?_⟩
      cases e
      obtain ⟨o,n,e,c,hd,_⟩:=pl
      exact ⟨o,e,hd⟩
    · refine ⟨⟨o,I.kIn p o hk,hc⟩,fun a e=>?_⟩
      cases e
      exact ⟨o,I.kIn _ o hk,hd⟩
    · have z:∃ o,s.heap.get? p=some o∧o.ExactDict:=by
        rcases hk with ⟨kvs,hk⟩ | ⟨kvs,hk⟩
        · obtain ⟨_,_,_,_,o,_,_,e,ex,_⟩:=I.hok p _ hk
          exact ⟨o,e,ex⟩
        · obtain ⟨_,_,_,_,o,_,_,e,ex,_⟩:=I.hok p _ hk
          exact ⟨o,e,ex⟩
      obtain ⟨o,e,ex⟩:=z
      refine ⟨⟨o,e,ex.1⟩,fun a e2=>?_⟩
      cases e2
      exact ⟨o,e,ex.2.1⟩
    · obtain ⟨o,_,_,_,e,ex,_⟩:=I.hok p _ hk
      refine ⟨⟨o,e,ex.1⟩,fun a e2=>?_⟩
      cases e2
      exact ⟨o,e,ex.2.1⟩
  | _=>exact False.elim ty
def tBM (K:PySem.W.Frag) (T:String) (r:V→List V→Hp→VK→Prop) (to:TE) (t:TA):TE:=fun σ H Q=>to σ H fun x H1=>tyV K T x H1∧t σ H1 fun xs H2=>r x xs H2 Q
variable {o e : Expr} {es : List Expr} {to : TE} {t : TA} {name : Str} {apos cpos : Pos} {T id : String} {r : V → List V → Hp → VK → Prop}
theorem pe_bm (pa:PlainAttrs T) (slot:Slot T name id) (hty:typeOf (.builtin id)=pure (.type "method_descriptor")) (hm:MtR X id r) (ho:PE X o to) (ha:PA X (e :: es) t)
    (hbase:attributeBase o name X.env (eval o X.env)=eval o X.env:=by rfl)
    (hfew:((backTo cpos (starEach (e :: es) X.env)).all (fun x=>!x.1) && (backToKw cpos (keywordEach [] X.env)).all (fun x=>x.1.isSome)
      && decide ((e :: es).length + ([]:List Keyword).length + (if ([]:List Keyword).isEmpty then 0 else 1) < 30))=true:=by rfl)
    (hline:(apos.endLine == cpos.line)=true:=by rfl) (hs:starEach (e :: es) X.env=(false,eval e X.env) :: starEach es X.env:=by rfl) (hplain:(backTo cpos (starEach es X.env)).any (·.1)=false:=by rfl) :
    PE X (.Call (.Attribute o name apos) (e :: es) [] cpos) (tBM X.K T r to t):=by
  intro pins s σ H Q I h
  refine wpAny_Call_method_late hbase hfew hline rfl (thn (ho pins s σ H _ I h) fun v s1 ⟨x,H1,I1,r1,ty,q1⟩=>?_)
  obtain ⟨h1,h2⟩:=tyV_is I1 r1 ty
  refine ⟨T,id,pa,slot,hty,h1,h2,?_⟩
  have hA:=ha cpos pins s1 σ H1 _ I1 q1
  rw [hs] at hA ⊢
  refine Calls.callWith_builtin (by show (false || (backTo cpos (starEach es X.env)).any (·.1))=false; rw [hplain] <;> rfl) (Calls.evalArgs_plain ?_)
  exact thn hA fun us s2 ⟨vs,H2,I2,r2,q2⟩=>hm pins s2 σ H2 x vs v us Q I2 r1 r2 q2
/- xs.append(e),list.index on a module's tuple .. are MtR facts of 06m -/
end
end L2
namespace L2
open PySem PySem.Spec PyProof.Rows
def MtM (X:Cx) (id:String) (r:V→List V→Hp→VK→Prop):Prop :=
  ∀ (pins:List (Addr × Obj)) (s:Shared) (σ:St) (H:Hp) (x:V) (xs:List V) (v:Value) (us:List Value) (Q:VK),Inv X pins σ H s→RelV x v→Vals xs us→r x xs H Q →
    wpAny (model X.prog X.w) X.A (call (.builtin id) (v :: us)) (EP X pins σ Q) X.xe s
theorem Vals.one:∀ {x:V} {us:List Value},Vals [x] us→∃ u,us=[u]∧RelV x u
  | _,_,.cons r .nil=>⟨_,rfl,r⟩
theorem Vals.two:∀ {x y:V} {us:List Value},Vals [x,y] us→∃ u v,us=[u,v]∧RelV x u∧RelV y v
  | _,_,_,.cons r (.cons q .nil)=>⟨_,_,rfl,r,q⟩
theorem Vals.zero:∀ {us:List Value},Vals [] us→us=[]
  | _,.nil=>rfl
theorem Vals.dropLast {xs:List V} {us:List Value} (h:Vals xs us):Vals xs.dropLast us.dropLast:=by
  induction h with
  | nil=>exact .nil
  | cons r t ih =>
    cases t with
    | nil=>exact .nil
    | cons q t'=>exact .cons r ih
section
variable {X : Cx} {pins : List (Addr × Obj)} {σ : St} {H : Hp} {s : Shared} {l b : Addr} {xs ys zs : List V}
theorem Inv.lset {its its':List Value} {n:Nat} {f:Array Value→Array Value} {t':Nat} (I:Inv X pins σ H s) (hH:H l=some (.lst xs))
    (e:s.heap.get? l=some { cls:=.type "list",data:=.seq its.toArray n }) (hf:f its.toArray=its'.toArray) (hv:Vals ys its') (hz:ys.length≤sizeLine) :
    Inv X pins σ (upd H l (.lst ys)) { s with heap:=s.heap.update l (Obj.mapSeq f),toks:=t' }:=by
  have q:=PySem.IsL.update e f
  rw [hf] at q
  refine I.write (x:=l) (e:=l) (by rw [hH]; exact trivial) (.inl rfl) (fun b' u hb hu=>(Heap.get?_update_other s.heap (Obj.mapSeq f) (Ne.symm hb)).trans hu) ⟨_,q⟩ ?_
  exact ⟨hz,its',_,hv,q⟩
theorem Inv.lnew {its:List Value} {t':Nat} (I:Inv X pins σ H s) (hv:Vals ys its) (hz:ys.length≤sizeLine) :
    Inv X pins σ (upd H s.heap.objs.size (.lst ys)) { s with heap:=s.heap.push { cls:=.type "list",data:=.seq its.toArray },toks:=t' } :=
  I.laid (fun _ _ q=>Heap.get?_push_of_some _ q) (Nat.le_refl _) ⟨hz,its,0,hv,Heap.get?_push_size _ rfl⟩
theorem Inv.fresh (I:Inv X pins σ H s):H s.heap.objs.size=none:=I.hok.fresh (Nat.le_refl _)
theorem Inv.lstM (I:Inv X pins σ H s) (hH:H l=some (.lst xs)):xs.length≤sizeLine∧∃ (its:List Value) (n:Nat),Vals xs its∧xs.length=its.length∧s.heap.get? l=some { cls:=.type "list",data:=.seq its.toArray n }:=by
  obtain ⟨z,its,n,r,e⟩:=I.hok l _ hH
  exact ⟨z,its,n,r,r.length,e⟩
end
section
variable {X : Cx}
def rAppend:V→List V→Hp→VK→Prop:=fun x vs H Q=>∃ l xs y,x=.ref l∧vs=[y]∧H l=some (.lst xs)∧xs.length < sizeLine∧Q .non (upd H l (.lst (xs ++ [y])))
theorem mt_append:MtM X "list.append" rAppend:=by
  intro pins s σ H x vs v us Q I rx rv h
  obtain ⟨l,xs,y,rfl,rfl,hH,hz,q⟩:=h
  cases rx
  obtain ⟨u,rfl,ru⟩:=rv.one
  obtain ⟨z,its,n,r,hl,e⟩:=I.lstM hH
  refine call_meets F.slot_list_append ⟨_,e,rfl⟩ F.entry_list_append (F.args_list_append_2 _ _) (PySem.list_append l its.toArray n u (by rw [List.size_toArray]; omega)) ⟨e,?_⟩
  refine ⟨.non,_,I.lset (its':=its ++ [u]) hH e (by simp) (r.append (.cons ru .nil)) ?_,rfl,q⟩
  rw [List.length_append,List.length_singleton]
  omega
def rCat:R2:=fun x y H Q=>∃ l b xs zs,x=.ref l∧y=.ref b∧H l=some (.lst xs)∧H b=some (.lst zs)∧xs.length + zs.length≤sizeLine∧∀ p,H p=none→Q (.ref p) (upd H p (.lst (xs ++ zs)))
theorem op_cat:OpR X (binaryOp .Add) rCat:=by
  intro pins s σ H x y v u Q I rx ry h
  obtain ⟨l,b,xs,zs,rfl,rfl,hH,hB,hz,q⟩:=h
  cases rx
  cases ry
  obtain ⟨z,its,n,r,hl,e⟩:=I.lstM hH
  obtain ⟨z2,its2,n2,r2,hl2,e2⟩:=I.lstM hB
  refine PySem.P.add_list e e2 ?_ (by rw [List.size_toArray,List.size_toArray]; omega)
  have ea:its.toArray ++ its2.toArray=(its ++ its2).toArray:=by simp
  rw [ea]
  exact ⟨.ref _,_,I.lnew (t':=s.toks) (r.append r2) (by rw [List.length_append]; omega),rfl,q _ I.fresh⟩
end
section
variable {prog : Program} {w : World} {A : Around} {E : Value → Shared → Prop} {s : Shared}
end
section
variable {X : Cx}
end
end L2
namespace Att
open PySem PySem.W PySem.Calls PyProof.Rows
theorem ints_of_wellAll {P:Params} {h:Heap}:∀ (ns:List Int) (vs:List Value),WellAll P h vs (ns.map WData.int)→IntsAre vs ns:=by
  intro ns
  induction ns with
  | nil =>
    intro vs w
    rw [List.map_nil] at w
    cases w
    exact .nil
  | cons n ns ih =>
    intro vs w
    rw [List.map_cons] at w
    cases w with
    | cons a b =>
      cases a
      exact .cons _ _ (ih _ b)
theorem script_of {l:OpenLaw} {n:Nat} (hn:l.most=some n) {P:Params} {h:Heap} {args:List WData} {vals:List Value}
    (hpre:l.row.toRowW.claim.pre args=true) (hwl:WellAll P h vals args) :
    ∃ a vs ns,vals=[Value.ref a]∧args=[WData.list (ns.map WData.int)]∧h.get? a=some { cls:=.type "list",data:=.seq vs.toArray }∧IntsAre vs ns∧ns.length≤n:=by
  have hsh:WShape.hasAll [] args [.list .int]=true:=(pre_splitW hpre).1
  have hc:l.pre.holds [] { args:=args }=true:=(pre_splitW hpre).2
  obtain ⟨d,r,rfl,h1,h2⟩:=hasAllW_cons hsh
  obtain rfl:=hasAllW_nil h2
  obtain ⟨xs,rfl,h3⟩:=hasW_list h1
  obtain ⟨ns,rfl⟩:=items_int h3
  have hlen:ns.length≤n:=by
    unfold OpenLaw.pre at hc
    have h4:(WTm.not (.lt (.lit (.int (n:Int))) (.len (.arg 0)))).holds [] { args:=[.list (ns.map .int)] }=true:=by
      have h4:=(holds_andW hc).1
      rw [hn] at h4
      exact h4
    have h5:=condW_of h4 (w_not (w_lt w_lit (w_len_list (w_arg rfl))))
    rw [List.length_map] at h5
    refine Nat.le_of_not_lt fun q=>?_
    have q':(n:Int) < ((ns.length:Nat):Int):=by omega
    first
      | (rw [decide_eq_true q'] at h5; exact absurd h5 (by decide))
      | (simp at h5; omega)
  cases hwl with
  | cons w1 w2 =>
    cases w2
    cases w1 with
    | list ho hall=>exact ⟨_,_,ns,rfl,rfl,ho,ints_of_wellAll ns _ hall,hlen⟩
theorem post_true (l:OpenLaw) (args:List WData):l.row.toRowW.claim.post args (.bool true) args=true :=
  postW_of (r:=l.row.toRowW) (X:=(true == true))
    (show WShape.has [] (.bool true) .bool=true by first | rfl | decide | simp [WShape.has,WShape.arms,WShape.armsAll])
    (show (WTm.eq .res (.lit (.bool true))).value [] { args:=args,res:=some (.bool true),after:=args }=some (.bool (true == true)) from w_eq_bool (w_res rfl) w_lit) rfl
theorem attach_call {l:OpenLaw} {n:Nat} {q:Program} {loose:List Str} {XP:(Str→Option Value)→Heap→Prop} {YP:World→Heap→Prop} {d:DefRec}
    (hn:l.most=some n) (hdf:d.params.defaults=[])
    (call:∀ (w:World) (s₀ s₁:Shared) (mg mb:Str→Option Value) (fa:Addr) (o:Obj) (pm cd doc:Value) (a:Addr) (vs:List Value) (ns:List Int),
      Ground q loose [] XP w s₀ mg mb s₁.heap→YP w s₁.heap →
      s₁.heap.get? fa=some o→o.data=.func (docDef d.name d.params d.body d.scope pm cd doc)→s₁.heap.CodeRec cd d.name→mg d.name=some (.ref fa) →
      s₁.heap.get? a=some { cls:=.type "list",data:=.seq vs.toArray }→IntsAre vs ns→ns.length≤n→s₁.gens=#[] →
      codeAny (model l.prog w) callerA (.call (.ref fa) ⟨[.ref a],[]⟩) (fun r s'=>r=.ok (.ret (.bool true))∧OldK s₁.heap s'.heap∧s'.os=s₁.os∧AllBare s'.gens) s₁) :
    WalkO q loose XP YP l.row.toRowW d [] (fun f vs=>PySem.call f vs):=by
  intro w s₀ s₁ mg mb G Y fa o pm cd doc dV kV ho hd hcd hD hmg hg args vals as hpre hlay hrd hwl hlo
  obtain rfl:dV=.none:=Dflts.none hD hdf
  obtain rfl:kV=.none:=Dflts.noKw hD
  obtain ⟨a,vs,ns,rfl,rfl,hobj,hints,hlen⟩:=script_of hn hpre hwl
  refine enter_call (codeAny_mono (call w s₀ s₁ mg mb fa o pm cd doc a vs ns G Y ho (fd_plain hd) hcd hmg hobj hints hlen hg) fun r s' hq=>?_)
  obtain ⟨rfl,h2,h3,h4⟩:=hq
  exact ⟨.inl ⟨.bool true,.bool true,[],rfl,fun _=>rfl,.bool true,post_true l _,fun _=>⟨List.Pairwise.nil,fun _ hm=>(nomatch hm)⟩⟩,h2,h3,h4⟩
section
variable {prog : Program} {w : World} {A : Around} {E : Value → Shared → Prop} {s : Shared} {K : Frag}
end
end Att
namespace L2
open PySem PySem.Spec PyProof.Rows
theorem vals_ints:∀ {vs:List Value} {ns:List Int},IntsAre vs ns→Vals (ns.map V.int) vs
  | _,_,.nil=>.nil
  | _,_,.cons n t h=>.cons ⟨t,rfl⟩ (vals_ints h)
def Only (H:Hp):Prop:=∀ b,H b=none∨∃ o xs,H b=some (.frz o (.lst xs))
theorem law_call {P:Program} {w:World} {K:PySem.W.Frag} {mg mb:Str→Option Value} {CX:CXT} {k:Nat} {fa a:Addr} {fd:FuncData} {x:Str} {sp:Sp} {s₁:Shared} {vs:List Value} {ns:List Int}
    (KX:K.In s₁.heap) (hns:s₁.heap.Ns mainGlobals mg) (hb:s₁.heap.Ns builtinsNs mb) (hbb:∀ x:Str,x≠"__name__"→mb x=bootBuiltins x) (hlim:s₁.heap.NoLimit) (hseer:s₁.heap.NoSeer) (hg:s₁.gens=#[])
    (ha:s₁.heap.get? a=some { cls:=.type "list",data:=.seq vs.toArray }) (hi:IntsAre vs ns) (hl:ns.length≤sizeLine) (hr:Room k callerA)
    (F:∀ base:Heap,K.In base→base.Ns mainGlobals mg→FnOk P w K mg base CX k fa fd [x] sp) (hbind:∀ (s:Shared) (u:Value),BindsTo s fd ⟨[u],[]⟩ [(x,u)])
    (hsp:∀ H:Hp,Only H→SqL K H a (ns.map V.int)→sp [.ref a] H (fun v _=>v=.bl true) fun _ _ _=>False)
    (hCX:∀ H e s',CX [] H s₁ (fun _ _ _=>False) e s'→False) :
    codeAny (model P w) callerA (.call (.ref fa) ⟨[.ref a],[]⟩) (fun r s'=>r=.ok (.ret (.bool true))∧OldK s₁.heap s'.heap∧s'.os=s₁.os∧AllBare s'.gens) s₁:=by
  have rv:=vals_ints hi
  have lenV:=hi.length
  have core:∀ H:Hp,Only H→SqL K H a (ns.map V.int)→HOk P w H s₁.heap→(∀ b,H b≠none→b=a)→(H a≠none→K.lookup a=none) →
      codeAny (model P w) callerA (.call (.ref fa) ⟨[.ref a],[]⟩) (fun r s'=>r=.ok (.ret (.bool true))∧OldK s₁.heap s'.heap∧s'.os=s₁.os∧AllBare s'.gens) s₁:=by
    intro H hO hS hok hA hK
    have base_of:∀ {b:Addr} {o:Obj},s₁.heap.get? b=some o→H b=none→(hidT s₁.heap H).get? b=some o:=fun e n=>hidT_get e n
    have noA:∀ {b:Addr} {o:Obj} {es:Array DictEntry} {ep:Nat},s₁.heap.get? b=some o→o.data=.dict es ep→H b=none:=fun {b o es ep} e d=>by
      cases q:H b with
      | none=>rfl
      | some u =>
        have e':b=a:=hA b (by rw [q]; simp)
        subst e'
        rw [ha] at e; cases e
        have d':Data.seq vs.toArray _=Data.dict es ep:=d
        cases d'
    have nsK:∀ {b:Addr} {m:Str→Option Value},s₁.heap.Ns b m→(hidT s₁.heap H).Ns b m:=fun {b m} ⟨o,es,ep,e,d,r⟩=>⟨o,es,ep,base_of e (noA e d),d,r⟩
    have hKb:K.In (hidT s₁.heap H):=fun b o e=>base_of (KX b o e) (by
      cases q:H b with
      | none=>rfl
      | some u =>
        have e':b=a:=hA b (by rw [q]; simp)
        subst e'
        rw [hK (by rw [q]; simp)] at e; cases e)
    have hmain:∃ mg bm ob,(hidT s₁.heap H).Ns mainGlobals mg∧mg "__builtins__"=some (.ref bm)∧(hidT s₁.heap H).get? bm=some ob∧ob.cls=.type "module"∧ob.dict=some builtinsNs:=by
      obtain ⟨mg',bm,ob,h1,h2,h3,h4,h5⟩:=hseer.main
      refine ⟨mg',bm,ob,nsK h1,h2,base_of h3 ?_,h4,h5⟩
      cases q:H bm with
      | none=>rfl
      | some u =>
        have e':bm=a:=hA bm (by rw [q]; simp)
        subst e'
        rw [ha] at h3
        cases h3
        have z:Value.type "list"=Value.type "module":=h4
        exact absurd z (by decide)
    have hM:Mod K mg (hidT s₁.heap H):=⟨hKb,nsK hns,⟨mb,nsK hb,hbb⟩,let ⟨mc,h1,h2⟩:=hlim; ⟨mc,nsK h1,h2⟩,⟨let ⟨mc,h1,h2⟩:=hseer.statics; ⟨mc,nsK h1,h2⟩,let ⟨mc,h1,h2⟩:=hseer.mods; ⟨mc,nsK h1,h2⟩,let ⟨mc,h1,h2⟩:=hseer.imp; ⟨mc,nsK h1,h2⟩,hmain⟩⟩
    have e0:Env0 P w K mg (hidT s₁.heap H) callerA [] s₁ H:=⟨rfl,hM,fun b o e=>of_hidT e,Nat.le_of_eq (hidT_size _ _),trivial,fun b hb=>absurd (show b∈([]:List Addr) from hb) (by simp),hok,.of_eq hg⟩
    refine codeAny_mono ((F _ hKb (nsK hns)).run callerA [] s₁ H ⟨[.ref a],[]⟩ [.ref a] [.ref a] _ _ hr e0 (hbind s₁ (.ref a)) (.cons rfl .nil) (hsp H hO hS)) fun r s' h=>?_
    cases r with
    | error e=>exact (hCX H e s' h).elim
    | ok fl =>
      cases fl with
      | next=>exact False.elim h
      | brk=>exact False.elim h
      | cont=>exact False.elim h
      | ret u =>
        obtain ⟨v,H',os,bare,un,hok',r',q⟩:=h
        have q':v=.bl true:=q
        subst q'
        obtain rfl:u=Value.bool true:=r'
        refine ⟨rfl,OldK.of_keep fun b o e=>?_,os,bare⟩
        cases q:H b with
        | none=>exact un.keep b o e q (by intro z; exact absurd (show b∈([]:List Addr) from z) (by simp)) (by simp)
        | some u =>
          rcases hO b with z | ⟨ob,xs,z⟩
          · rw [q] at z; cases z
          · have z2:=un.frzs b ob _ z
            obtain ⟨e1,_⟩:=hok b _ z
            obtain ⟨e2,_⟩:=hok' b _ z2
            rw [e] at e1; cases e1
            exact e2
  cases hk:K.lookup a with
  | some o =>
    have e:=KX a o hk
    rw [ha] at e
    cases e
    refine core (fun _=>none) (fun _=>.inl rfl) (.inr ⟨_,vs.toArray,_,hk,rfl,rfl,rfl,by rw [List.size_toArray,lenV]; exact hl,by simpa using rv⟩) (fun b u z=>by have z':(none:Option HO)=some u:=z; cases z') (fun b z=>absurd rfl z) fun z=>absurd rfl z
  | none =>
    refine core (fun b=>if b=a then some (.frz { cls:=.type "list",data:=.seq vs.toArray } (.lst (ns.map V.int))) else none) (fun b=>?_) (.inl (.inr ⟨{ cls:=.type "list",data:=.seq vs.toArray },if_pos rfl⟩)) (fun b u z=>?_) (fun b z=>?_) fun _=>hk
    · by_cases hb:b=a
      · exact .inr ⟨_,_,if_pos hb⟩
      · exact .inl (if_neg hb)
    · by_cases hb:b=a
      · have z':=(if_pos hb).symm.trans z
        cases z'
        subst hb
        exact ⟨ha,by rw [List.length_map]; exact hl,vs,_,rv,ha⟩
      · have z':=(if_neg hb).symm.trans z
        cases z'
    · by_cases hb:b=a
      · exact hb
      · exact absurd (if_neg hb) z
end L2
namespace L2
open PySem PySem.Spec PyProof.Rows
abbrev KOf {K:PySem.W.Frag} {h:Heap} (_:K.In h):PySem.W.Frag:=K
theorem walk_of {l:PySem.W.OpenLaw} {n k:Nat} {q:Program} {loose:List Str} {XP:(Str→Option Value)→Heap→Prop} {YP:World→Heap→Prop} {d:DefRec} {K:Params→PySem.W.Frag} {CX:World→CXT} {sp:World→Sp} {x:Str}
    (hn:l.most=some n) (hn2:n≤sizeLine) (hdf:d.params.defaults=[]) (hr:Room k callerA)
    (hY:∀ (w:World) (h:Heap),YP w h→(K w.params).In h)
    (F:∀ (w:World) (mg:Str→Option Value) (fa:Addr) (h:Heap),(K w.params).In h→h.Ns mainGlobals mg→mg d.name=some (.ref fa) →
      ∃ fd:FuncData,(∀ (s:Shared) (u:Value),BindsTo s fd ⟨[u],[]⟩ [(x,u)]) ∧
        ∀ base:Heap,(K w.params).In base→base.Ns mainGlobals mg→FnOk l.prog w (K w.params) mg base (CX w) k fa fd [x] (sp w))
    (hsp:∀ (w:World) (H:Hp) (a:Addr) (ns:List Int),ns.length≤n→Only H→SqL (K w.params) H a (ns.map V.int)→sp w [.ref a] H (fun v _=>v=.bl true) fun _ _ _=>False)
    (hCX:∀ (w:World) (H:Hp) (s:Shared) (e:Value) (s':Shared),CX w [] H s (fun _ _ _=>False) e s'→False) (him:importsNone q=true) :
    PySem.W.WalkO q loose XP YP l.row.toRowW d [] (fun f vs=>PySem.call f vs):=by
  refine Att.attach_call hn hdf fun w s₀ s₁ mg mb fa o pm cd doc a vs ns G Y ho hd hcd hmg hobj hints hlen hg=>?_
  have KX:=hY w _ Y
  obtain ⟨fd,hb,hF⟩:=F w mg fa _ KX G.T.g hmg
  exact law_call KX G.T.g G.T.b G.T.builtins G.T.nolimit (G.T.seer him) hg hobj hints (Nat.le_trans hlen hn2) hr hF hb (fun H hO hS=>hsp w H a ns hlen hO hS) fun H e s'=>hCX w H s₁ e s'
end L2
/- THE LAST THEOREM (shape; LID, My.* are yours):
   My.Adr: a structure of the addresses that your layer names (classes, functions); My.Txt K t: a structure (Prop) of the equations over K;
   My.txt_mk : {K} {implicit addresses ..} (e1 : nsIn K mainGlobals "law" = some (some (.ref f))) (e2 : K.lookup f = some ⟨oc, od, .func (fnOf "law" "law" params body scope dV kV doc pm an cdv ct), sl⟩) (e3 : codeIn K cdv "law" = true) .. : ∃ t, My.Txt K t
set_option maxRecDepth 100000 in
set_option maxHeartbeats 0 in
theorem PySem.Challenge.cw_LID_holds : PySem.Challenge.rw_LID.Holds := by
  w_on; o_law; k_head; (case hw => w_witness2)
  k_fill
  refine L2.walk_of (l := PySem.Challenge.rw_LID) (n := 63) (k := 40) (x := "script") (CX := fun w => ..) (sp := fun _ => My.sp_law) rfl (by decide) rfl ⟨rfl, by decide, by decide⟩ (fun w h Y => PySem.W.kIn_of Y) ?F ?S ?C
  case F =>
    intro w mg fa h KX G hmg
    have T : ∃ t, My.Txt (L2.KOf KX) t := by
      dsimp only [L2.KOf]                          -- K must stand as «<heap const> w.params» for k_is
      refine' My.txt_mk ?e1 ?e2 ?e3 ..
      (case e1 => PySem.W.k_is)                    -- in the order: a name -> its address -> its object -> its parts
      (case e2 => PySem.W.k_is)
      ..
    obtain ⟨t, T⟩ := T
    have e0 := hmg.symm.trans (PySem.W.mg_of KX G T.law)
    cases e0                                       -- fa is the law's own address
    exact ⟨_, fun s u => .of_eq rfl, fun base kb nb => My.law_fn T kb nb⟩     -- if «.of_eq rfl» comes too early: refine' ⟨_, ?b, fun base kb nb => My.law_fn T kb nb⟩; exact fun s u => .of_eq rfl
  case S => exact fun w H a ns hl hO hS => ..
  case C => exact ..
(the tactic k_is has no namespace: write k_is) -/
namespace L2
open PySem PySem.Spec PyProof.Rows
def inClass (s:Stmt) (j:Nat):Stmt:=match s with
  | .ClassDef _ _ _ body _ _ _ _ _ _ _=>body.getD j (.Pass ⟨0,0,0,0⟩)
  | _=>.Pass ⟨0,0,0,0⟩
def defArgs (s:Stmt):Arguments:=match s with
  | .FunctionDef _ a _ _ _ _ _ _ _ _=>a
  | _=>{ posonlyargs:=[],args:=[],vararg:=none,kwonlyargs:=[],kw_defaults:=[],kwarg:=none,defaults:=[] }
def defBody (s:Stmt):List Stmt:=match s with
  | .FunctionDef _ _ b _ _ _ _ _ _ _=>b
  | _=>[]
def defScope (s:Stmt):Scope:=match s with
  | .FunctionDef _ _ _ _ _ _ sc _ _ _=>sc
  | _=>{ kind:=.function,names:=[],isGenerator:=false,isCoroutine:=false }
abbrev CX0:CXT:=fun _ _ _ _ _ _=>False
abbrev E0:XK:=fun _ _ _=>False
structure Fun (K:PySem.W.Frag) (x qual:Str) (st:Stmt) (f:Addr) (fd:FuncData):Prop where
  ex:∃ (oc:Value) (od:Option Addr) (kV doc pm:Value) (an:Option Addr) (cdv ct:Value) (osl:Array (Option Value)),
    fd=PySem.W.fnOf x qual (defArgs st) (defBody st) (defScope st) .none kV doc pm an cdv ct∧K.lookup f=some ⟨oc,od,.func fd,osl⟩∧PySem.W.codeIn K cdv qual=true
  kp:PySem.W.keepIn K (.ref f)=true
section
variable {P : Program} {w : World} {K : PySem.W.Frag} {mg : Str → Option Value} {base : Heap}
theorem Fun.binds {x qual:Str} {st:Stmt} {f:Addr} {fd:FuncData} {ps:List Str} (F:Fun K x qual st f fd)
    (h:∀ (kV doc pm:Value) (an:Option Addr) (cdv ct:Value) (us:List Value),us.length=ps.length→bindArgs (PySem.W.fnOf x qual (defArgs st) (defBody st) (defScope st) .none kV doc pm an cdv ct) ⟨us,[]⟩=pure (ps.zip us)):Binds K fd ps []:=by
  obtain ⟨oc,od,kV,doc,pm,an,cdv,ct,osl,rfl,lk,hcd⟩:=F.ex
  exact .all (h kV doc pm an cdv ct)
theorem fun_mk {x qual:Str} {st:Stmt} {f:Addr} {oc:Value} {od an:Option Addr} {osl:Array (Option Value)} {kV doc pm cdv ct:Value} (l:K.lookup f=some ⟨oc,od,.func (PySem.W.fnOf x qual (defArgs st) (defBody st) (defScope st) .none kV doc pm an cdv ct),osl⟩)
    (c:PySem.W.codeIn K cdv qual=true) (k:PySem.W.keepIn K (.ref f)=true):Fun K x qual st f (PySem.W.fnOf x qual (defArgs st) (defBody st) (defScope st) .none kV doc pm an cdv ct):=⟨⟨oc,od,kV,doc,pm,an,cdv,ct,osl,rfl,l,c⟩,k⟩
end
section
variable {X : Cx}
theorem pv (i:Nat) {x:Str} {pos:Pos} (hN:X.N[i]?=some x:=by rfl) (hv:Vis X.env.scope x:=by first | exact Or.inl rfl | exact Or.inr (Or.inl rfl) | exact Or.inr (Or.inr rfl)) (hd:(x == ("__debug__":Str))=false:=by decide)
    (hcd:(x == ("__classdict__":Str))=false:=by decide):PE X (.Name x pos) (tVar i):=pe_var hN hv hd hcd
end
theorem iteF {A B:Prop} (h:B):if false=true then A else B:=by
  rw [if_neg Bool.false_ne_true]
  exact h
theorem iteT {A B:Prop} (h:A):if true=true then A else B:=by
  rw [if_pos rfl]
  exact h
theorem ite2 {c A B:Prop} [Decidable c] (h1:c→A) (h2:¬ c→B):if c then A else B:=by
  by_cases h:c
  · rw [if_pos h]
    exact h1 h
  · rw [if_neg h]
    exact h2 h
def Same (H H':Hp):Prop:=∀ b o,H b=some o→H' b=some o
theorem Same.refl (H:Hp):Same H H:=fun _ _ h=>h
theorem Same.trans {H H1 H2:Hp} (a:Same H H1) (b:Same H1 H2):Same H H2:=fun c o h=>b c o (a c o h)
theorem Same.free {H H':Hp} (e:Same H H') {l:Addr} (h:H' l=Option.none):H l=Option.none:=by
  cases q:H l with
  | none=>rfl
  | some o =>
    rw [e l o q] at h
    cases h
theorem Same.seq {K:PySem.W.Frag} {H H':Hp} {a:Addr} {xs:List V} (e:Same H H') (h:SqL K H a xs):SqL K H' a xs:=by
  rcases h with (h | ⟨o,h⟩) | h
  · exact .inl (.inl (e _ _ h))
  · exact .inl (.inr ⟨o,e _ _ h⟩)
  · exact .inr h
end L2
namespace L2
open PySem PySem.Spec PyProof.Rows
section
variable {P : Program} {w : World} {H H' : Hp} {h h' : Heap} {a : Addr} {o : HO}
theorem ObjOk.there (x:ObjOk P w H h a o):∃ ob,h.get? a=some ob:=by
  cases o with
  | lst xs=>obtain ⟨_,_,_,_,e⟩:=x; exact ⟨_,e⟩
  | tup xs=>obtain ⟨_,_,_,ob,e,_⟩:=x; exact ⟨_,e⟩
  | dK kvs=>obtain ⟨_,_,_,_,ob,_,_,e,_⟩:=x; exact ⟨_,e⟩
  | dT kvs=>obtain ⟨_,_,_,_,ob,_,_,e,_⟩:=x; exact ⟨_,e⟩
  | set S n=>obtain ⟨ob,_,_,_,e,_⟩:=x; exact ⟨_,e⟩
  | ins C dx fs=>obtain ⟨_,_,_,e,_⟩:=x; exact ⟨_,e⟩
  | own y=>obtain ⟨_,e⟩:=x; exact ⟨_,e⟩
  | xd fs=>obtain ⟨_,⟨_,_,_,e,_⟩,_⟩:=x; exact ⟨_,e⟩
  | rng lo hi=>obtain ⟨_,_,_,e⟩:=x; exact ⟨_,e⟩
  | frz ob u=>obtain ⟨e,_⟩:=x; exact ⟨_,e⟩
  | tbl ps=>exact ⟨_,(show h.get? a=some _ from x)⟩
  | met f y=>exact ⟨_,(show h.get? a=some _ from x)⟩
  | ext φ=>obtain ⟨_,e,_⟩:=x; exact e
end
def FlyB (outer:List Env) (H':Hp) (hs:Heap) (x:Addr) (cls:Value) (h:Heap):Prop :=
  ∃ (B:Heap) (a0:Value),Heap.FlyingW B outer x cls a0 h∧(∀ b,H' b≠none→∃ o,B.get? b=some o)∧(∀ b o,hs.get? b=some o→b ∉ frs outer→∃ o',B.get? b=some o')
def CXE (P:Program) (w:World):CXT:=fun outer H s E e s' =>
  ∃ (x:Addr) (cls:Value) (H':Hp),e=.ref x∧s'.os=s.os∧AllBare s'.gens∧Un (frs outer) [] H H' s.heap s'.heap∧HOk P w H' s'.heap∧FlyB outer H' s.heap x cls s'.heap∧E cls none H'
theorem fly_turn {P:Program} {w:World} {outer:List Env} {H H':Hp} {hs h h' B:Heap} (u:Un (frs outer) [] H H' hs h) (ok:HOk P w H' h) (t:∀ b,H' b≠none→∃ o,B.get? b=some o)
    (el:∀ b o,hs.get? b=some o→b ∉ frs outer→∃ o',B.get? b=some o') (k:B.StaysIn h) (k':B.StaysIn h') (ff:h.FunFrames B outer) (up:h.UpToSlots h') :
    Un (frs outer) [] H H' hs h'∧HOk P w H' h':=by
  have inB:∀ b o,(∃ o',B.get? b=some o')→h.get? b=some o→h'.get? b=some o:=fun b o ⟨o',e'⟩ e=>by
    have z:=k b o' e'
    rw [e] at z
    cases z
    exact k' b _ e'
  have fr:∀ b o,b∈frs outer→h.get? b=some o→∃ sl,h'.get? b=some { o with slots:=sl }:=fun b o hb e=>by
    obtain ⟨_,o2,e2,d⟩:=ff.mem hb
    rw [e] at e2
    cases e2
    exact up b _ e d
  refine ⟨⟨fun b o e n hb hx=>inB b o (el b o e hb) (u.keep b o e n hb hx),fun b o e n hb hx=>?_,u.free,fun b o e hx=>?_,u.tups,u.frzs,u.tbls⟩,fun a o e=>(ok a o e).stay (fun b v hb q=>inB b v (t b ?_) q) (fun _ q=>q) fun _ _ q=>q⟩
  · obtain ⟨sl,e1⟩:=u.slot b o e n hb hx
    obtain ⟨sl',e3⟩:=fr b _ hb e1
    exact ⟨sl',e3⟩
  · obtain ⟨o1,e1⟩:=u.there b o e hx
    by_cases hb:b∈frs outer
    · obtain ⟨sl,e3⟩:=fr b _ hb e1
      exact ⟨_,e3⟩
    · exact ⟨o1,inB b o1 (el b o e hb) e1⟩
  · rcases hb with z | z
    · rw [z,e]; exact fun z=>nomatch z
    · rw [z]; exact fun z=>nomatch z
section
variable {P : Program} {w : World} {K : PySem.W.Frag} {mg : Str → Option Value} {base : Heap} {N : List Str} {qual : Str} {scope : Scope} {f : Addr} {cd : Value} {A : Around} {outer : List Env} {s : Shared} {H : Hp} {E : XK}
theorem pass_cx:Passes (CXE P w) (cxOf (CXE P w) P w K mg base N qual scope f cd A outer s H E) E:=by
  intro pins σ H1 s1 e s' I h
  obtain ⟨x,cls,H',rfl,os,bare,un,hok,⟨B,a0,fl,t,el⟩,q⟩:=h
  refine wpAny_leaves_onW (base:=B) (L:=s.heap.objs.size) I.ok.frames rfl fl fun h' fl' up=>?_
  obtain ⟨un',hok'⟩:=fly_turn un hok t el fl.1 fl'.1 fl.2.2.1 up
  have I':=I.call (h':=h') (g':=s'.gens) (d':=s'.drawn) (t':=s'.toks) (ch:=[]) un' hok' bare (fun b z=>absurd z (by simp))
  refine ⟨x,cls,H',rfl,os.trans I.os,bare,I'.base,hok',⟨B,a0,fl',t,fun b o e nb=>?_⟩,q⟩
  obtain ⟨o1,e1⟩:=I.base.there b o e (fun z=>nomatch z)
  refine el b o1 e1 fun z=>?_
  rcases List.mem_cons.mp (I.stkSub b z) with z' | z'
  · rw [z'] at e
    exact absurd (Heap.lt_size e) (Nat.lt_irrefl _)
  · exact nb z'
theorem raise_cx {pins:List (Addr × Obj)} {σ:St} {H1:Hp} {s1:Shared} {h1:Heap} {e:Addr} {cls:Value} {vs:List Value} (I:Inv (cxOf (CXE P w) P w K mg base N qual scope f cd A outer s H E) pins σ H1 s1)
    (hk:scope.kind=.function) (mx:Heap.MadeExcOf s1.heap h1 e cls vs) (q:E cls none H1):(cxOf (CXE P w) P w K mg base N qual scope f cd A outer s H E).xe (.ref e) { s1 with heap:=h1 }:=by
  have fs:=I.stack
  have hin:∀ env∈(cxOf (CXE P w) P w K mg base N qual scope f cd A outer s H E).stack,∀ b,env.frame=some b→b∈frs (cxOf (CXE P w) P w K mg base N qual scope f cd A outer s H E).stack:=fun env he b hb=>List.mem_filterMap.mpr ⟨env,he,hb⟩
  have ff:=PySem.W.funFrames_hide fs hin
  have st:(PySem.W.hideAll s1.heap (frs (cxOf (CXE P w) P w K mg base N qual scope f cd A outer s H E).stack)).StaysIn s1.heap:=fun b o z=>PySem.W.of_hideAll _ z
  have I1:Inv _ pins σ H1 { s1 with heap:=h1 }:=I.kept (h':=h1) (t':=s1.toks) mx.keeps
  have un1:Un (frs (cxOf (CXE P w) P w K mg base N qual scope f cd A outer s H E).stack) [] H1 H1 s1.heap h1:=Un.kept mx.keeps
  have tr:∀ b,H1 b≠none→∃ o,(PySem.W.hideAll s1.heap (frs (cxOf (CXE P w) P w K mg base N qual scope f cd A outer s H E).stack)).get? b=some o:=fun b n=>by
    cases z:H1 b with
    | none=>exact absurd z n
    | some u =>
      obtain ⟨o,e⟩:=(I.hok b u z).there
      exact ⟨o,PySem.W.hideAll_get _ e fun m=>by rw [I.stkFree b m] at z; cases z⟩
  have el:∀ b o,s1.heap.get? b=some o→b ∉ frs (cxOf (CXE P w) P w K mg base N qual scope f cd A outer s H E).stack→∃ o',(PySem.W.hideAll s1.heap (frs (cxOf (CXE P w) P w K mg base N qual scope f cd A outer s H E).stack)).get? b=some o' :=
    fun b o e n=>⟨o,PySem.W.hideAll_get _ e n⟩
  refine wpAny_leaves_madeW (base:=PySem.W.hideAll s1.heap (frs (cxOf (CXE P w) P w K mg base N qual scope f cd A outer s H E).stack)) (L:=s.heap.objs.size) I.ok.frames rfl st ff mx fun h' t fl' _ _ up=>?_
  have k1:(PySem.W.hideAll s1.heap (frs (cxOf (CXE P w) P w K mg base N qual scope f cd A outer s H E).stack)).StaysIn h1:=fun b o z=>mx.keeps b o (st b o z)
  have ff1:h1.FunFrames (PySem.W.hideAll s1.heap (frs (cxOf (CXE P w) P w K mg base N qual scope f cd A outer s H E).stack)) (cxOf (CXE P w) P w K mg base N qual scope f cd A outer s H E).stack:=ff.of_keeps fun b o z _=>⟨o,mx.keeps b o z,rfl⟩
  obtain ⟨un',hok'⟩:=fly_turn un1 I1.hok tr el k1 fl'.1 ff1 up
  have I':=I.call (h':=h') (g':=s1.gens) (d':=s1.drawn) (t':=s1.toks) (ch:=[]) un' hok' I.bare (fun b z=>absurd z (by simp))
  refine ⟨e,cls,H1,rfl,I.os,I.bare,I'.base,hok',⟨_,.ref t,fl',tr,fun b o e' nb=>?_⟩,q⟩
  obtain ⟨o1,e1⟩:=I.base.there b o e' (fun z=>nomatch z)
  refine el b o1 e1 fun z=>?_
  rcases List.mem_cons.mp (I.stkSub b z) with z' | z'
  · rw [z'] at e'
    exact absurd (Heap.lt_size e') (Nat.lt_irrefl _)
  · exact nb z'
theorem own_cx:PassesOwn (model P w) (cxOf (CXE P w) P w K mg base N qual scope f cd A outer s H E).A (cxOf (CXE P w) P w K mg base N qual scope f cd A outer s H E).env (cxOf (CXE P w) P w K mg base N qual scope f cd A outer s H E).xe :=
  PassesOwn.leaving
end
def Rais (X:Cx) (E:XK):Prop:=∀ (pins:List (Addr × Obj)) (σ:St) (H:Hp) (s:Shared) (h1:Heap) (e:Addr) (cls:Value) (vs:List Value),Inv X pins σ H s→Heap.MadeExcOf s.heap h1 e cls vs→E cls none H→X.xe (.ref e) { s with heap:=h1 }
theorem own_obj {K:PySem.W.Frag} {h:Heap} {C:Addr} {bmB:List Value} {newId:String} (X:K.In h) (q:PySem.W.excIn K C bmB newId=true) :
    ∃ bm N nm q bs hdct sn sub ab col dd k0 k1 k2 k3 k5 mN,h.get? C=some (excClassObj nm q C N bs bm hdct sn sub ab col dd k0 k1 k2 k3 k5 newId)∧h.Ns N mN∧mN "__init__"=none∧OwnTail h bmB bm:=by
  unfold PySem.W.excIn at q
  split at q
  · rename_i dd cd sl ho
    split at q
    · rename_i C' bm k0 k1 k2 k3 n k5 hm hs
      simp only [Bool.and_eq_true,beq_iff_eq,Bool.not_eq_true'] at q
      obtain ⟨⟨⟨⟨⟨rfl,rfl⟩,hdel⟩,ht⟩,hok⟩,hni⟩:=q
      obtain ⟨nm,bs,mro,ns,qn,hd,sn,sub,ab,col,del⟩:=cd
      dsimp only at hm hdel hok hni
      subst hm hdel
      have hsl:sl=#[k0,k1,k2,k3,some (.builtin n),k5]:=by
        obtain ⟨l⟩:=sl
        simp only at hs
        rw [hs]
      subst hsl
      exact ⟨bm,ns,nm,qn,bs,hd,sn,sub,ab,col,dd,k0,k1,k2,k3,k5,_,X _ _ ho,.of_isNs (PySem.W.isNs_of_in X hok),PySem.W.nsMap_none_of_in X hok hni,PySem.W.tail_of_in X ht⟩
    · cases q
  · cases q
abbrev bmV:List Value:=[.type "ValueError",.type "Exception",.type "BaseException",.type "object"]
structure ExC (K:PySem.W.Frag) (mg:Str→Option Value) (x:Str) (C:Addr):Prop where
  mg:mg x=some (.ref C)
  ok:PySem.W.excIn K C bmV "ValueError.__new__"=true
def tRaise (C:Addr) (E:XK) (t:TA):TS:=fun _ σ H=>t σ H fun vs H1=>vs.length≤sizeLine∧E (.ref C) none H1
section
variable {X : Cx} {x : Str} {C : Addr} {E : XK} {e : Expr} {es : List Expr} {t : TA} {np cpos pos : Pos}
theorem ps_raise (hX:ExC X.K X.mg x C) (hc:X.calm=true) (hg:Gl X x) (hr:Rais X E) (ha:PA X (e :: es) t) (hd:(x == ("__debug__":Str))=false:=by decide)
    (he:starEach (e :: es) X.env=(false,eval e X.env) :: starEach es X.env:=by rfl) (hpl:(backTo cpos (starEach es X.env)).any (·.1)=false:=by rfl) :
    PS X (.Raise (some (.Call (.Name x np) (e :: es) [] cpos)) none pos) (tRaise C E t):=by
  intro pins s σ H D I h
  obtain ⟨tl,N,nm,q,bs,hdct,sn,sub,ab,col,dd,k0,k1,k2,k3,k5,mN,hC,hN,hni,T⟩:=own_obj I.mod.kin hX.ok
  refine wpAny_Raise_call_subT (C:=C) (nm:=nm) (q:=q) (N:=N) (bs:=bs) (bm:=tl) (hdct:=hdct) (sn:=sn) (sub:=sub) (ab:=ab) (col:=col) (dd:=dd) (k0:=k0) (k1:=k1) (k2:=k2) (k3:=k3) (k5:=k5)
    F.excBase_ValueError (mN:=mN) (T.hasType F.excBase_ValueError.hasBase) (I.ok.hd hc) (by rw [he]; show (false || (backTo cpos (starEach es X.env)).any (·.1))=false; rw [hpl]; rfl) hni (ld_glob I hg hX.mg ⟨rfl,?_⟩ hd)
  have hx:=ha cpos pins s σ H _ I h
  rw [he] at hx ⊢
  refine Calls.evalArgs_plain (thn hx fun us s2 ⟨vs,H2,I2,r,hl,q2⟩=>⟨rfl,?_,I2.bk _ _ hC,hN.keeps I2.bk,T.keeps I2.bk,fun h' e' mx=>hr pins σ H2 s2 h' e' (.ref C) us I2 mx q2⟩)
  show us.length≤sizeLine
  rw [← r.length]
  exact hl
end
end L2
namespace L2
open PySem PySem.Spec PyProof.Rows
abbrev Cx.tr (X:Cx) (asg:List Nat) (pn':List (Addr × Obj)) (k:Nat→Option V) (xe':Value→Shared→Prop):Cx :=
  { X with pn:=pn',kn:=fun i=>bif asg.contains i then Option.none else k i,xe:=xe' }
abbrev Cx.hd (X:Cx) (x:Addr) (pn':List (Addr × Obj)) (xe':Value→Shared→Prop):Cx :=
  { X with A:=X.A.mark (some (.ref x)),calm:=false,pn:=pn',kn:=fun _=>Option.none,xe:=xe' }
section
variable {X : Cx} {pins pn' : List (Addr × Obj)} {σ σ' : St} {H : Hp} {s : Shared} {asg : List Nat} {k : Nat → Option V} {xe' : Value → Shared → Prop} {x : Addr}
theorem Cx.Ok.tr (ok:X.Ok):(X.tr asg pn' k xe').Ok :=
  ⟨ok.mod,ok.kind,ok.glob,ok.blt,ok.above,ok.inj,ok.has,ok.cab,ok.hd,ok.frames,ok.stk,ok.exf,ok.bs,ok.bsz,ok.noex,ok.exfs,ok.funs,ok.frf⟩
theorem Cx.Ok.untr (ok:(X.tr asg pn' k xe').Ok):X.Ok :=
  ⟨ok.mod,ok.kind,ok.glob,ok.blt,ok.above,ok.inj,ok.has,ok.cab,ok.hd,ok.frames,ok.stk,ok.exf,ok.bs,ok.bsz,ok.noex,ok.exfs,ok.funs,ok.frf⟩
theorem Cx.Ok.inhd (ok:X.Ok):(X.hd x pn' xe').Ok :=
  ⟨ok.mod,ok.kind,ok.glob,ok.blt,ok.above,ok.inj,ok.has,ok.cab,(fun z=>nomatch z),ok.frames,ok.stk,ok.exf,ok.bs,ok.bsz,ok.noex,ok.exfs,ok.funs,ok.frf⟩
theorem Inv.tr (I:Inv X pins σ H s):Inv (X.tr asg (X.pn ++ pins) (fun i=>(σ[i]?).join) xe') [] σ H s :=
  ⟨I.ok.tr,I.os,I.bare,I.base,I.loc,I.cell,I.free,I.freeC,fun p hp=>I.pin p (by rw [List.append_nil] at hp; exact hp),I.hok,I.len,fun i v z=>by
    have z':(bif asg.contains i then Option.none else (σ[i]?).join)=some v:=z
    cases q:asg.contains i with
    | true=>rw [q] at z'; cases z'
    | false =>
      rw [q] at z'
      cases q2:σ[i]? with
      | none=>rw [q2] at z'; cases z'
      | some o =>
        rw [q2] at z'
        cases o with
        | none=>cases z'
        | some u=>cases z'; rfl⟩
theorem Inv.untr {p2:List (Addr × Obj)} (I:Inv (X.tr asg (X.pn ++ pins) k xe') p2 σ H s) (hk:∀ i,X.kn i=Option.none):Inv X pins σ H s :=
  ⟨I.ok.untr,I.os,I.bare,I.base,I.loc,I.cell,I.free,I.freeC,fun p hp=>I.pin p (List.mem_append_left _ hp),I.hok,I.len,fun i v z=>by rw [hk i] at z; cases z⟩
theorem Inv.inhd (I:Inv X pins σ H s):Inv (X.hd x (X.pn ++ pins) xe') [] σ H s :=
  ⟨I.ok.inhd,I.os,I.bare,I.base,I.loc,I.cell,I.free,I.freeC,fun p hp=>I.pin p (by rw [List.append_nil] at hp; exact hp),I.hok,I.len,fun i v z=>nomatch z⟩
theorem Inv.unhd {p2:List (Addr × Obj)} (ok:X.Ok) (I:Inv (X.hd x (X.pn ++ pins) xe') p2 σ H s) (hk:∀ i,X.kn i=Option.none):Inv X pins σ H s :=
  ⟨ok,I.os,I.bare,I.base,I.loc,I.cell,I.free,I.freeC,fun p hp=>I.pin p (List.mem_append_left _ hp),I.hok,I.len,fun i v z=>by rw [hk i] at z; cases z⟩
theorem Inv.adopt {o:HO} (I:Inv X pins σ H s) (hx:H x=none) (ok:ObjOk X.prog X.w (upd H x o) s.heap x o) (h0:X.s₀.heap.get? x=none) (hL:x≠X.env.locals)
    (hC:∀ y c,X.env.cells.lookup y=some c→c≠x) (hp:∀ p∈X.pn ++ pins,p.1≠x):Inv X pins σ (upd H x o) s:=by
  have nx:∀ b u,H b=some u→b≠x:=fun b u e z=>by rw [z,hx] at e; cases e
  refine ⟨I.ok,I.os,I.bare,⟨I.base.keep,I.base.slot,fun b ob e n hb=>?_,I.base.there,fun b xs e=>?_,fun b ob u e=>?_,fun b ps e=>?_⟩,I.loc,I.cell,?_,fun y c e=>?_,fun p hq=>?_,fun b u e=>?_,I.len,I.kno⟩
  · have z:b≠x:=fun z=>by rw [z,h0] at e; cases e
    rw [upd_ne z]; exact I.base.free b ob e n hb
  · have z:=I.base.tups b xs e
    rw [upd_ne (nx _ _ z)]; exact z
  · have z:=I.base.frzs b ob u e
    rw [upd_ne (nx _ _ z)]; exact z
  · obtain ⟨m,z⟩:=I.base.tbls b ps e
    exact ⟨m,by rw [upd_ne (nx _ _ z)]; exact z⟩
  · rw [upd_ne (Ne.symm hL)]; exact I.free
  · rw [upd_ne (hC y c e)]; exact I.freeC y c e
  · obtain ⟨e1,e2,e3⟩:=I.pin p hq
    exact ⟨e1,by rw [upd_ne (hp p hq)]; exact e2,e3⟩
  · by_cases hb:b=x
    · subst hb
      rw [upd_same] at e
      cases e
      exact ok
    · rw [upd_ne hb] at e
      exact (I.hok b u e).stay (fun _ _ _ q=>q) (fun c q=>by rw [upd_ne (nx _ _ q)]; exact q) fun c xs q=>by rw [upd_ne (nx _ _ q)]; exact q
end
def maskF (asg:List Nat):Nat→St→St
  | _,[]=>[]
  | i,o :: r=>(bif asg.contains i then Option.none else o) :: maskF asg (i + 1) r
theorem maskF_len (asg:List Nat):∀ (j:Nat) (σ:St),(maskF asg j σ).length=σ.length
  | _,[]=>rfl
  | j,_ :: r=>by simp only [maskF,List.length_cons,maskF_len asg (j + 1) r]
theorem maskF_get (asg:List Nat):∀ (j:Nat) (σ:St) (i:Nat) (v:V),(maskF asg j σ)[i]?=some (some v)→asg.contains (j + i)=false∧σ[i]?=some (some v)
  | _,[],i,v,e=>by simp [maskF] at e
  | j,o :: r,0,v,e=>by
    simp only [maskF,List.getElem?_cons_zero,Option.some.injEq] at e
    cases q:asg.contains j with
    | true=>rw [q] at e; cases e
    | false=>rw [q] at e; exact ⟨by first | rfl | exact q,by rw [List.getElem?_cons_zero]; exact congrArg some e⟩
  | j,o :: r,i + 1,v,e=>by
    simp only [maskF,List.getElem?_cons_succ] at e
    obtain ⟨a,b⟩:=maskF_get asg (j + 1) r i v e
    exact ⟨by rw [show j + (i + 1)=j + 1 + i by omega]; exact a,by rw [List.getElem?_cons_succ]; exact b⟩
def ExcAt (x:Addr) (cls:Value) (h:Heap):Prop:=∃ oe vs,h.get? x=some oe∧oe.cls=cls∧oe.data=.fields vs
theorem excAt_ext {P:Program} {w:World} {H:Hp} {h:Heap} {x:Addr} {cls:Value} (e:ExcAt x cls h):ObjOk P w H h x (.ext (ExcAt x cls)) :=
  ⟨e,(let ⟨oe,_,e1,_⟩:=e; ⟨oe,e1⟩),fun _ _ ⟨oe,vs,e1,e2,e3⟩ k=>⟨oe,vs,k oe e1,e2,e3⟩⟩
structure Landed (X:Cx) (pins:List (Addr × Obj)) (asg:List Nat) (σ:St) (E:XK) (x:Addr) (cls:Value) (H':Hp) (s:Shared):Prop where
  inv:Inv X pins (maskF asg 0 σ) H' s
  new:H' x=none
  at_:ExcAt x cls s.heap
  h0:X.s₀.heap.get? x=none
  hL:x≠X.env.locals
  hC:∀ y c,X.env.cells.lookup y=some c→c≠x
  hp:∀ p∈X.pn ++ pins,p.1≠x
  want:E cls none H'
theorem Landed.adopted {X:Cx} {pins:List (Addr × Obj)} {asg:List Nat} {σ:St} {E:XK} {x:Addr} {cls:Value} {H':Hp} {s:Shared} (L:Landed X pins asg σ E x cls H' s) :
    Inv X pins (maskF asg 0 σ) (upd H' x (.ext (ExcAt x cls))) s:=L.inv.adopt L.new (excAt_ext L.at_) L.h0 L.hL L.hC L.hp
section
variable {X : Cx} {pins : List (Addr × Obj)} {σ : St} {H : Hp} {s : Shared} {asg : List Nat} {E : XK} {hs : List ExceptHandler} {Q : Flow → Shared → Prop}
theorem look_at (I:Inv X pins σ H s) (hex:X.ex=[]) (hst:X.stack=X.env :: X.outer∧X.env.frame=some X.env.locals) (hk:∀ i,X.kn i=Option.none)
    (hh:∀ (x:Addr) (cls:Value) (H':Hp) (B:Heap) (a0:Value) (s':Shared),Heap.FlyingW B X.stack x cls a0 s'.heap→Landed X pins asg σ E x cls H' s' →
      (∀ h'',Heap.FlyingW B X.stack x cls a0 h''→s'.heap.UpToSlots h''→Landed X pins asg σ E x cls H' { s' with heap:=h'' }) →
      wpAny (model X.prog X.w) X.A (handleBy (.ref x) X.env hs) Q X.xe s') :
    Passes (CXE X.prog X.w) (X.tr asg (X.pn ++ pins) (fun i=>(σ[i]?).join) (fun e s₁=>wpAny (model X.prog X.w) X.A (noteFrame e X.env) (fun _ s₂=>wpAny (model X.prog X.w) X.A (setFlight e none) (fun _ s₃ =>
      wpAny (model X.prog X.w) X.A (handleBy e X.env hs) Q X.xe s₃) X.xe s₂) X.xe s₁)) E:=by
  intro pins1 σ1 H1 s1 e s' I1 hc
  obtain ⟨x,cls,H',rfl,os,bare,un,hok,⟨B,a0,fl,t,el⟩,q⟩:=hc
  have un:Un (frs X.stack) [] H1 H' s1.heap s'.heap:=un
  have fl:Heap.FlyingW B X.stack x cls a0 s'.heap:=fl
  have el:∀ b o,s1.heap.get? b=some o→b ∉ frs X.stack→∃ o',B.get? b=some o':=el
  have notB:∀ b o,B.get? b=some o→b≠x:=fun b o e z=>by rw [z,fl.2.1] at e; cases e
  have H'x:H' x=none:=by
    cases z:H' x with
    | none=>rfl
    | some u =>
      obtain ⟨o,e⟩:=t x (by rw [z]; exact fun q=>nomatch q)
      exact absurd rfl (notB x o e)
  have nfr:x ∉ frs X.stack:=fun m=>by
    obtain ⟨oe,vs,h1,_,h3,_⟩:=fl.first
    obtain ⟨_,o,h5,d⟩:=fl.2.2.1.mem m
    rw [h1] at h5
    cases h5
    exact d vs h3
  have old:∀ o,s1.heap.get? x=some o→False:=fun o e=>by
    obtain ⟨o2,e2⟩:=el x o e nfr
    exact notB x o2 e2 rfl
  have x0:X.s₀.heap.get? x=none:=by
    cases z:X.s₀.heap.get? x with
    | none=>rfl
    | some o =>
      obtain ⟨o1,e1⟩:=I1.base.there x o z (fun w=>by rw [show (X.tr asg (X.pn ++ pins) (fun i=>(σ[i]?).join) _).ex=X.ex from rfl,hex] at w; cases w)
      exact (old o1 e1).elim
  have xL:x≠X.env.locals:=fun z=>nfr (by rw [z,hst.1]; exact List.mem_filterMap.mpr ⟨X.env,.head _,hst.2⟩)
  have xC:∀ y c,X.env.cells.lookup y=some c→c≠x:=fun y c e z=>by
    obtain ⟨v,oc,ec,_⟩:=I1.cell y c e
    rw [z] at ec
    exact old oc ec
  have xP:∀ p∈X.pn ++ pins,p.1≠x:=fun p hp z=>by
    have e:=(I1.pin p (List.mem_append_left _ hp)).1
    rw [z] at e
    exact old _ e
  have land:∀ h'',Heap.FlyingW B X.stack x cls a0 h''→s'.heap.UpToSlots h''→Landed X pins asg σ E x cls H' { s' with heap:=h'' }:=fun h'' fl'' up=>by
    obtain ⟨un'',hok''⟩:=fly_turn un hok t el fl.1 fl''.1 fl.2.2.1 up
    have I2:=I1.call (h':=h'') (g':=s'.gens) (d':=s'.drawn) (t':=s'.toks) (ch:=[]) un'' hok'' bare (fun b z=>absurd z (by simp))
    have I3:Inv X pins σ1 H' { s1 with heap:=h'',gens:=s'.gens,drawn:=s'.drawn,toks:=s'.toks }:=I2.untr hk
    have es:({ s1 with heap:=h'',gens:=s'.gens,drawn:=s'.drawn,toks:=s'.toks }:Shared)={ s' with heap:=h'' }:=by
      obtain ⟨_,_,_,_,o1⟩:=s1
      obtain ⟨_,_,_,_,o2⟩:=s'
      have z:o2=o1:=os
      subst z
      rfl
    rw [es] at I3
    obtain ⟨oe,vs,h1,h2,h3,_⟩:=fl''.first
    refine ⟨I3.weak (by rw [maskF_len,I.len,I3.len]) (fun i v z=>?_) (fun i v z=>by rw [hk i] at z; cases z),H'x,⟨oe,vs,h1,h2,h3⟩,x0,xL,xC,xP,q⟩
    obtain ⟨a,b⟩:=maskF_get asg 0 σ i v z
    rw [Nat.zero_add] at a
    refine I2.kno i v ?_
    show (bif asg.contains i then Option.none else (σ[i]?).join)=some v
    rw [a,b]
    rfl
  have frames:X.A.frames=some (X.env :: X.outer):=by rw [← hst.1]; exact I.ok.frames
  rw [hst.1] at fl
  refine wpAny_looks_onW (base:=B) (L:=X.env.locals) frames hst.2 fl fun h4 held up4=>?_
  refine wpAny_landsW held fun h5 fl5 up5=>?_
  rw [← hst.1] at fl5
  refine hh x cls H' B a0 _ fl5 (land h5 fl5 (up4.trans up5)) fun h'' fl'' up=>?_
  exact land h'' fl'' ((up4.trans up5).trans up)
end
section
variable {X : Cx} {x : Str} {C : Addr} {E : XK} {body : List Stmt} {b0 : Stmt} {suite : List Stmt} {asg : List Nat} {np hpos pos : Pos} {tb : List (Addr × Obj) → (Nat → Option V) → (Value → Shared → Prop) → TS} {th : Addr → List (Addr × Obj) → TS}
def Ends.gone (D:Ends) (i:Nat):Ends:={ nx:=fun σ H=>D.nx (σ.set i Option.none) H,rt:=D.rt,bk:=fun σ H=>D.bk (σ.set i Option.none) H,ct:=fun σ H=>D.ct (σ.set i Option.none) H }
def tTryA (K:PySem.W.Frag) (C:Addr) (E:XK) (asg:List Nat) (i:Nat) (tb:List (Addr × Obj)→(Nat→Option V)→(Value→Shared→Prop)→TS) (th:Addr→List (Addr × Obj)→TS):TS:=fun D σ H =>
  (∀ pn k xe,tb pn k xe D σ H)∧∀ cls H' x,E cls none H'→H' x=none→PySem.W.exmOne K cls (.ref C)=some true∧∀ pn,th x pn (D.gone i) ((maskF asg 0 σ).set i (some (.ref x))) (upd H' x (.ext (ExcAt x cls)))
theorem excAt_looks {M:Model} {h:Heap} {x:Addr} {cls:Value} (e:ExcAt x cls h):PySem.W.Looks M h (typeOf (.ref x)) cls:=by
  obtain ⟨oe,vs,h1,h2,_⟩:=e
  exact h2 ▸ (PySem.W.Looks.ld h1).andThen .now
theorem Inv.gone {pins:List (Addr × Obj)} {σ:St} {H:Hp} {s:Shared} {i:Nat} {n:Str} {pos:Pos} {A:Around} {E':Value→Shared→Prop} {Q:Unit→Shared→Prop} (I:Inv X pins σ H s) (hN:X.N.Nodup) (hi:X.N[i]?=some n)
    (hl:X.env.scope.names.lookup n=some .local) (hk:∀ i,X.kn i=Option.none) (h:∀ s',Inv X pins (σ.set i Option.none) H s'→Q () s') :
    wpAny (model X.prog X.w) A (do bindName X.env n .none; unbindBehindTheSuite X.env n pos) Q E' s:=by
  obtain ⟨m,hn,hlk⟩:=id I.loc
  have hcls:(X.env.scope.kind == .class || (X.env.scope.kind == .module && X.env.locals != X.env.globals))=false:=by rw [I.ok.kind]; rfl
  refine wpAny_nameGoes_keeps hl hn hcls fun h' v hn' hs=>h _ ?_
  obtain ⟨oL,_,_,hoL,_⟩:=id hn
  have cne:=I.cne
  refine ⟨I.ok,I.os,I.bare,⟨fun b o e n hb hx=>?_,fun b o e n hb hx=>?_,I.base.free,fun b o e hx=>?_,I.base.tups,I.base.frzs,I.base.tbls⟩,⟨_,hn',fun j y v' e1 e2 e3=>?_⟩,fun y c e=>?_,I.free,I.freeC,fun p hp=>?_,fun b ob e=>?_,by simpa using I.len,fun j u z=>by rw [hk j] at z; cases z⟩
  · exact (hs.2 b (Nat.ne_of_lt (Nat.lt_of_lt_of_le (Heap.lt_size e) I.ok.above))).trans (I.base.keep b o e n hb hx)
  · obtain ⟨sl,e1⟩:=I.base.slot b o e n hb hx
    exact ⟨sl,(hs.2 b (Nat.ne_of_lt (Nat.lt_of_lt_of_le (Heap.lt_size e) I.ok.above))).trans e1⟩
  · obtain ⟨o',e1⟩:=I.base.there b o e hx
    exact ⟨o',(hs.2 b (Nat.ne_of_lt (Nat.lt_of_lt_of_le (Heap.lt_size e) I.ok.above))).trans e1⟩
  · have hij:i≠j:=fun z=>by
      subst z
      rw [List.getElem?_set] at e2
      split at e2
      · split at e2 <;> cases e2
      · exact absurd rfl ‹¬ i=i›
    rw [List.getElem?_set_ne hij] at e2
    obtain ⟨u,r,l⟩:=hlk j y v' e1 e2 e3
    refine ⟨u,r,?_⟩
    rcases l with ⟨a,b⟩ | ⟨a,c,b,z⟩
    · refine .inl ⟨a,?_⟩
      have hy:y≠n:=fun z=>by subst z; exact hij (nodup_ix hN hi e1)
      show (if y=n then v else m y)=some u
      rw [if_neg hy]; exact b
    · exact .inr ⟨a,c,b,z.sameBut hs (cne y c b)⟩
  · obtain ⟨w',z⟩:=I.cell y c e
    exact ⟨w',z.sameBut hs (cne y c e)⟩
  · obtain ⟨e,n,ne,nf,d⟩:=I.pin p hp
    exact ⟨(hs.2 p.1 ne).trans e,n,ne,nf,d⟩
  · refine (I.hok b ob e).stay (fun c w' hc q=>(hs.2 c ?_).trans q) (fun _ q=>q) fun _ _ q=>q
    rintro rfl
    rcases hc with hc | hc
    · rw [← hc,I.free] at e; cases e
    · rw [I.free] at hc; cases hc
theorem ps_tryA {i:Nat} {n:Str} (hm:X.mg x=some (.ref C)) (hg:Gl X x) (hex:X.ex=[]) (hst:X.stack=X.env :: X.outer∧X.env.frame=some X.env.locals) (hk:∀ i,X.kn i=Option.none)
    (hN:X.N.Nodup) (hi:X.N[i]?=some n) (hl:X.env.scope.names.lookup n=some .local)
    (hb:∀ pn k xe,Passes (CXE X.prog X.w) (X.tr asg pn k xe) E→PassesOwn (model X.prog X.w) X.A X.env xe→PSs (X.tr asg pn k xe) body (tb pn k xe))
    (hh:∀ y pn,PSs (X.hd y pn fun _ _=>False) (b0 :: suite) (th y pn)) (hd:(x == ("__debug__":Str))=false:=by decide) :
    PS X (.Try body [.ExceptHandler (some (.Name x np)) (some n) (b0 :: suite) hpos] [] [] pos) (tTryA X.K C E asg i tb th):=by
  intro pins s σ H D I h
  refine wpAny_Try_except ?_
  have hx:=look_at (asg:=asg) (E:=E) (hs:=[.ExceptHandler (some (.Name x np)) (some n) (b0 :: suite) hpos]) (Q:=SP X pins D) I hex hst hk fun y cls H' B a0 s' fl L land=>?_
  · refine wpAny_mono (hb _ _ _ hx PassesOwn.looking [] s σ H D I.tr (h.1 _ _ _)) (fun f s1 q=>?_) fun _ _ z=>z
    cases f with
    | next=>obtain ⟨σ',H',I',q⟩:=q; exact wpAny_execs_nil ⟨σ',H',I'.untr hk,q⟩
    | brk=>obtain ⟨σ',H',I',q⟩:=q; exact ⟨σ',H',I'.untr hk,q⟩
    | cont=>obtain ⟨σ',H',I',q⟩:=q; exact ⟨σ',H',I'.untr hk,q⟩
    | ret u=>obtain ⟨v,σ',H',I',r,q⟩:=q; exact ⟨v,σ',H',I'.untr hk,r,q⟩
  · obtain ⟨em,hq⟩:=h.2 cls H' y L.want L.new
    refine wpAny_handleBy_cons (codeAny_handlers_test ?_) (by intro q; cases q)
    refine ld_glob (X:=X.hd y (X.pn ++ pins) fun _ _=>False) L.inv.inhd hg hm ?_ hd
    refine (PySem.W.exm_one L.inv.kIn (excAt_looks L.at_) em).here ?_
    refine codeAny_handlers_suite_as ?_
    refine lands_againW fl fun h6 fl6 up6=>?_
    have L6:=land h6 fl6 up6
    have I6:Inv (X.hd y (X.pn ++ pins) fun _ _=>False) [] (maskF asg 0 σ) (upd H' y (.ext (ExcAt y cls))) _:=L6.adopted.inhd
    refine store_ok (X:=X.hd y (X.pn ++ pins) fun _ _=>False) (v:=.ref y) I6 hN hi (.inl hl) rfl (fun s7 I7=>?_) (.inr hl) rfl
    refine wpAny_mono (hh y (X.pn ++ pins) [] _ _ _ (D.gone i) I7 (hq _)) (fun f s1 q=>?_) fun _ _ z=>False.elim z
    have ok:=I.ok
    cases f with
    | next=>obtain ⟨σ',H2,I',q⟩:=q; exact (I'.unhd ok hk).gone hN hi hl hk fun s' J=>⟨_,H2,J,q⟩
    | brk=>obtain ⟨σ',H2,I',q⟩:=q; exact (I'.unhd ok hk).gone hN hi hl hk fun s' J=>⟨_,H2,J,q⟩
    | cont=>obtain ⟨σ',H2,I',q⟩:=q; exact (I'.unhd ok hk).gone hN hi hl hk fun s' J=>⟨_,H2,J,q⟩
    | ret u=>obtain ⟨v,σ',H2,I',r,q⟩:=q; exact (I'.unhd ok hk).gone hN hi hl hk fun s' J=>⟨v,_,H2,J,r,q⟩
end
end L2
namespace L2
open PySem PySem.Spec PyProof.Rows
structure ExK (K:PySem.W.Frag) (C:Addr):Prop where
  cl:(PySem.W.clsIn K C).isSome=true
  ga:PySem.W.findIn K (.ref C) "__getattribute__"=some (some (.builtin "BaseException.__getattribute__"))
  gn:PySem.W.findIn K (.ref C) "__getattr__"=some none
  kl:PySem.W.findIn K (.ref C) "__class__"=some (some (.builtin "object.__class__"))
  sub:PySem.W.subIn K (.ref C) (.type "BaseException")=some true
  ob:PySem.W.subIn K (.ref C) (.type "object")=some true
section
variable {prog : Program} {w : World} {A : Around} {E : Value → Shared → Prop} {h : Heap} {g : Array GenState} {d : Drawn} {t : Nat} {os : OsState} {a C : Addr} {o : Obj} {K : PySem.W.Frag} {vs : Array Value}
theorem class_get_exc {R:Result→Shared→Prop} (X:K.In h) (k:ExK K C) (hx:h.get? a=some o) (hc:o.cls=.ref C) (hq:R (.ok (.ret (.ref C))) ⟨h,g,d,t,os⟩) :
    codeAny (model prog w) A (.call (.builtin "getset_descriptor.__get__") ⟨[.builtin "object.__class__",.ref a,.ref C],[]⟩) R ⟨h,g,d,t,os⟩:=by
  have hT5:(⟨h,g,d,t,os⟩:Shared).TypeIs (.builtin "object.__class__") "getset_descriptor":=F.typeOf_object_class
  have LS:PySem.W.Looks (model prog w) h (isSubtype (.ref C) (.type (".".intercalate ("object.__class__".cutAt '.').dropLast))) true:=by
    rw [F.owner_object_class]; exact PySem.W.looks_subIn X k.ob
  refine codeAny_call_builtin F.slot_gs_get.plain F.entry_gs_get (F.slot_gs_get.check _ _ _ _ _ _ _ _ hT5 (F.args_gs_get _ _ _) ?_)
  repeat (any_goals (first | assumption | (with_reducible refine wpAny_loadPart_at hx ?_; rw [hc]) | (with_reducible refine wpAny_bind (LS.at ?_)) | (with_reducible refine LS.at ?_) | wp_step))
  refine ⟨Code.quiet_builtin _ (by decide +kernel),codeAny_builtin F.entry_object_class ?_⟩
  repeat (any_goals (first | assumption | (with_reducible refine wpAny_loadPart_at hx ?_; rw [hc]) | wp_step))
end
end L2
namespace L2
open PySem PySem.Spec PyProof.Rows
section
variable {prog : Program} {w : World} {A : Around} {E : Value → Shared → Prop} {h : Heap} {g : Array GenState} {d : Drawn} {t : Nat} {os : OsState} {a C : Addr} {o : Obj} {K : PySem.W.Frag} {vs : Array Value}
theorem class_entry_exc {tk:Tok} {Q:Fin→Shared→Prop} (X:K.In h) (k:ExK K C) (hx:h.get? a=some o) (hc:o.cls=.ref C) (hq:Q (.done (.ret (.ref C))) ⟨h,g,d,t,os⟩) :
    wpAny (model prog w) A (Builtin.«object.__getattribute__» ⟨[.ref a,.str "__class__" tk],[]⟩) Q E ⟨h,g,d,t,os⟩:=by
  have hT5:(⟨h,g,d,t,os⟩:Shared).TypeIs (.builtin "object.__class__") "getset_descriptor":=F.typeOf_object_class
  have L4:=PySem.W.looks_findIn (M:=model prog w) X k.kl
  have f5:=F.typeOf_object_class
  have f6:=F.slot_gs_get.lookup
  have f7:=F.slot_gs_set.lookup
  repeat (any_goals (first | assumption | (with_reducible refine wpAny_loadPart_at hx ?_; rw [hc]) | (with_reducible refine wpAny_bind (L4.at ?_)) | wp_step))
  refine class_get_exc X k hx hc ?_
  repeat (any_goals (first | assumption | wp_step))
theorem class_check_exc {M:Model} {nameV:Value} {Q:Unit→Shared→Prop} (X:K.In h) (k:ExK K C) (hx:h.get? a=some o) (hc:o.cls=.ref C) (hq:Q () ⟨h,g,d,t,os⟩) :
    wpAny M A (checkBuiltinCall "BaseException.__getattribute__" ⟨[.ref a,nameV],[]⟩) Q E ⟨h,g,d,t,os⟩:=by
  have hk:builtinKind "BaseException.__getattribute__"=some .slot:=by decide +kernel
  have hsplit:splitId "BaseException.__getattribute__"=some ("BaseException","__getattribute__"):=by decide +kernel
  have LS:=PySem.W.looks_subIn (M:=M) X k.sub
  have ha:=F.args_bexc_ga (.ref a) nameV
  simp only [checkBuiltinCall,hk,hsplit]
  refine wpAny_bind ?_
  · unfold isInstance
    repeat (first | (with_reducible refine wpAny_loadPart_at hx ?_; rw [hc]) | (with_reducible refine wpAny_bind (LS.at ?_)) | (with_reducible refine LS.at ?_) | wp_step)
    exact hq
theorem class_call_exc {tk:Tok} {R:Result→Shared→Prop} (X:K.In h) (k:ExK K C) (hx:h.get? a=some o) (hc:o.cls=.ref C) (hq:R (.ok (.ret (.ref C))) ⟨h,g,d,t,os⟩) :
    codeAny (model prog w) A (.call (.builtin "BaseException.__getattribute__") ⟨[.ref a,.str "__class__" tk],[]⟩) R ⟨h,g,d,t,os⟩ :=
  codeAny_call_builtin F.attr_ValueError.ga.plain F.entry_bexc_ga (class_check_exc X k hx hc (class_entry_exc X k hx hc hq))
theorem class_by_exc {tk:Tok} {Q:Value→Shared→Prop} (X:K.In h) (k:ExK K C) (hx:h.get? a=some o) (hc:o.cls=.ref C) (hq:Q (.ref C) ⟨h,g,d,t,os⟩) :
    wpAny (model prog w) A (getAttrBy (.ref a) (.str "__class__" tk) false) Q E ⟨h,g,d,t,os⟩:=by
  have f3:=F.attr_ValueError.ga.bind (.ref a)
  have L1:=PySem.W.looks_findIn (M:=model prog w) X k.ga
  have L2:=PySem.W.looks_findIn (M:=model prog w) X k.gn
  have hx2:(Value.builtin "BaseException.__getattribute__" == Value.builtin "object.__getattribute__")=false:=by decide +kernel
  have hx1:(onTheHeap (Value.ref C) && Value.builtin "BaseException.__getattribute__" == Value.builtin "object.__getattribute__")=false:=by rw [hx2]; rfl
  repeat (any_goals (first | assumption | (with_reducible refine wpAny_loadPart_at hx ?_; rw [hc]) | (with_reducible refine wpAny_bind (L1.at ?_)) | (with_reducible refine wpAny_bind (L2.at ?_)) | wp_step))
  refine class_call_exc X k hx hc ?_
  repeat (any_goals (first | assumption | wp_step))
theorem class_attr_exc {Q:Option Value→Shared→Prop} (X:K.In h) (k:ExK K C) (hx:h.get? a=some o) (hc:o.cls=.ref C) (hq:Q (some (.ref C)) ⟨h,g,d,t + 1,os⟩) :
    wpAny (model prog w) A (getAttr? (.ref a) "__class__") Q E ⟨h,g,d,t,os⟩:=by
  unfold getAttr? getAttrBy?
  repeat (any_goals (first | assumption | with_reducible apply class_by_exc X k hx hc | wp_step))
end
theorem kitx_exc {K:PySem.W.Frag} {a C:Addr} (k:ExK K C):PySem.W.KitX K (.ref a) (.ref C) (ExcAt a (.ref C)) where
  ty:=fun _ _ _ e=>excAt_looks e
  it:=fun _ _ X _=>by
    have hcD:=k.cl
    unfold PySem.W.clsIn at hcD
    split at hcD
    · rename_i c' d' cd' sl' ho
      intro A' Q' E' s' kk q
      unfold isType loadHead
      exact wpAny_bind (wpAny_loadPart (kk _ _ (X _ _ ho)) (wpAny_pure q))
    · cases hcD
  ne:=fun h tp dd its n sl X htp=>by
    have hcD:=k.cl
    refine Bool.eq_false_iff.mpr fun q=>?_
    have e:C=tp:=Value.ref.inj (beq_iff_eq.mp q)
    subst e
    unfold PySem.W.clsIn at hcD
    split at hcD
    · rename_i c' d' cd' sl' ho
      have z:=(X _ _ ho).symm.trans htp
      cases z
    · cases hcD
  ca:=fun {_ _ _ _ _ s} X e q=>by
    obtain ⟨oe,vs,h1,h2,_⟩:=e
    obtain ⟨h,g,d,t,os⟩:=s
    exact class_attr_exc X k h1 h2 q
inductive TyX (K:PySem.W.Frag) (H:Hp):V→Value→Prop where
  | of {x:V} {t:Value} (e:TyOf K H x t):TyX K H x t
  | exc {a C:Addr} (e:H a=some (.ext (ExcAt a (.ref C)))) (k:ExK K C):TyX K H (.ref a) (.ref C)
def clsV:V→Option Value
  | .ty n=>some (.type n)
  | .ref a=>some (.ref a)
  | _=>none
theorem clsV_rel {v:V} {c u:Value} (e:clsV v=some c) (r:RelV v u):u=c:=by
  cases v <;> cases e <;> exact r
theorem call_isinst {X:Cx}:CallR X (.builtin "isinstance") (fun xs H Q=>∃ x cv c t b,xs=[x,cv]∧clsV cv=some c∧TyX X.K H x t∧PySem.W.kitOne X.K t c=some b∧Q (.bl b) H):=by
  intro pins s σ H xs us Q I r h
  obtain ⟨x,cv,c,t,b,rfl,ec,ty,ek,q⟩:=h
  obtain ⟨u,u2,rfl,rx,rc⟩:=vals2 r
  obtain rfl:=clsV_rel ec rc
  cases ty with
  | of ty=>exact isinst_ok I rx ty ek fun tk=>⟨.bl b,H,I.tok tk,rfl,q⟩
  | @exc a C e k =>
    cases (show u=Value.ref a from rx)
    obtain ⟨ea,_,_⟩:=(show ObjOk X.prog X.w H s.heap a (.ext (ExcAt a (.ref C))) from I.hok a _ e)
    exact PySem.W.kia_one (kitx_exc k) I.kIn ea ek (fun z=>nomatch z) fun tk=>⟨.bl b,H,I.tok tk,rfl,q⟩
def CDivX (i j:Int):Prop:=0 < j∧j.natAbs.log2 < 9000
section
variable {X : Cx}
theorem op_fdivX:OpR X (binaryOp .FloorDiv) (rI CDivX fun i j=>.int (i / j)):=opI fun i j _ _ _ _ _ hc q=>by
  refine floordiv_int (by have:=hc.1; omega) ?_ (.inl (PyProof.noPylong_of_log2 hc.2))
  rw [Int.fdiv_eq_ediv_of_nonneg _ (by have:=hc.1; omega)]
  exact q
theorem op_mulX:OpR X (binaryOp .Mult) (rI IntMulOk fun i j=>.int (i * j)):=opI fun i j _ _ _ _ _ hc q=>mul_int q hc
def eqVs:List V→List V→Bool
  | [],[]=>true
  | x :: xs,y :: ys=>eqV x y && eqVs xs ys
  | _,_=>false
theorem eqVs_range:∀ (xs ys:List V),((List.range (min xs.length ys.length)).all (fun j=>eqV (xs.getD j .non) (ys.getD j .non)) && xs.length == ys.length)=eqVs xs ys
  | [],[]=>rfl
  | [],_ :: _=>by simp [eqVs]
  | _ :: _,[]=>by simp [eqVs]
  | x :: xs,y :: ys=>by
    have ih:=eqVs_range xs ys
    simp only [List.length_cons,Nat.add_min_add_right,List.range_succ_eq_map,List.all_cons,List.all_map,List.getD_cons_zero,eqVs]
    rw [← ih]
    simp only [Function.comp_def,List.getD_cons_succ,Bool.and_assoc]
    congr 2
    simp
def rEqT (K:PySem.W.Frag):R2:=fun x y H Q=>∃ a b xs ys,x=.ref a∧y=.ref b∧SqT K H a xs∧SqT K H b ys∧xs.all flatV=true∧ys.all flatV=true∧Q (.bl (eqVs xs ys)) H
def rNeT (K:PySem.W.Frag):R2:=fun x y H Q=>∃ a b xs ys,x=.ref a∧y=.ref b∧SqT K H a xs∧SqT K H b ys∧xs.all flatV=true∧ys.all flatV=true∧Q (.bl (!eqVs xs ys)) H
theorem eqT_items {A:Around} {s:Shared} {xs ys:List V} {us ws:List Value} (r:Vals xs us) (q:Vals ys ws) (fx:xs.all flatV=true) (fy:ys.all flatV=true) :
    ∀ j (h1:j < us.toArray.size) (h2:j < ws.toArray.size),SeqAt.EqAt A s us.toArray[j] ws.toArray[j] (eqV (xs.getD j .non) (ys.getD j .non)):=fun j h1 h2=>by
  have l1:=r.length
  have l2:=q.length
  have h1':j < us.length:=by simpa using h1
  have h2':j < ws.length:=by simpa using h2
  have e1:xs[j]?=some (xs[j]'(by omega)):=List.getElem?_eq_getElem (by omega)
  have e2:ys[j]?=some (ys[j]'(by omega)):=List.getElem?_eq_getElem (by omega)
  obtain ⟨u,eu,ru⟩:=r.get e1
  obtain ⟨v,ev,rv⟩:=q.get e2
  have eu':us.toArray[j]=u:=by
    rw [List.getElem?_eq_getElem h1'] at eu
    simpa using Option.some.inj eu
  have ev':ws.toArray[j]=v:=by
    rw [List.getElem?_eq_getElem h2'] at ev
    simpa using Option.some.inj ev
  rw [eu',ev',List.getD_eq_getElem?_getD,List.getD_eq_getElem?_getD,e1,e2]
  exact eqAt_V ru rv (List.all_eq_true.mp fx _ (List.getElem_mem _)) (List.all_eq_true.mp fy _ (List.getElem_mem _))
theorem op_eqT (hu:X.A.units < cLine):OpR X (compareOp .Eq) (rEqT X.K):=by
  intro pins s σ H x y v u Q I rx ry h
  obtain ⟨a,b,xs,ys,rfl,rfl,ha,hb,fx,fy,q⟩:=h
  cases rx
  cases ry
  obtain ⟨us,r,pa,_⟩:=I.tuple ha
  obtain ⟨ws,r2,pb,_⟩:=I.tuple hb
  refine SeqAt.eq_tupleAt pa pb hu (eqT_items r r2 fx fy) ⟨.bl _,H,I,rfl,?_⟩
  rw [show us.toArray.size=xs.length by rw [r.length]; simp,show ws.toArray.size=ys.length by rw [r2.length]; simp,eqVs_range]
  exact q
theorem op_neT (hu:X.A.units < cLine):OpR X (compareOp .NotEq) (rNeT X.K):=by
  intro pins s σ H x y v u Q I rx ry h
  obtain ⟨a,b,xs,ys,rfl,rfl,ha,hb,fx,fy,q⟩:=h
  cases rx
  cases ry
  obtain ⟨us,r,pa,_⟩:=I.tuple ha
  obtain ⟨ws,r2,pb,_⟩:=I.tuple hb
  refine SeqAt.RcNeAt.tuples pa pb hu (eqT_items r r2 fx fy) _ _ _ _ ⟨.bl _,H,I,rfl,?_⟩
  rw [show us.toArray.size=xs.length by rw [r.length]; simp,show ws.toArray.size=ys.length by rw [r2.length]; simp,eqVs_range]
  exact q
end
section
variable {X : Cx} {e : Expr} {te : TE} {pos p3 p4 : Pos} {c : Str} {k : Nat}
def tFstr (c:Str) (te:TE):TE:=fun σ H Q=>c.length≤1000∧te σ H fun x H1=>∃ i,x=.int i∧i.natAbs.log2 < 1920∧∀ z:Str,Q (.str z) H1
theorem line4000 {n:Nat} (h:n≤4000):n≤sizeLine:=by rw [sizeLine_eq]; omega
theorem pe_fstr2 (he:PE X e te):PE X (.JoinedStr [.Constant (.str c) k p3,.FormattedValue e (-1) none p4] pos) (tFstr c te):=by
  intro pins s σ H Q I h
  obtain ⟨hc,h⟩:=h
  have z0:Str.empty.length=0:=rfl
  refine JoinedStr_many (joinParts_cons (Calls.Constant_str ?_))
  have I0:Inv X pins σ H { s with toks:=s.toks + 1 }:=I.tok _
  refine ⟨line4000 (by rw [strLen_append,z0]; omega),joinParts_cons (FormattedValue_plain (thn (he pins _ σ H _ I0 h) fun u s1 ⟨x,H1,I1,rx,i,ex,hi,q⟩=>?_))⟩
  subst ex
  obtain ⟨t,rfl⟩:=rx
  refine formatField_int_small hi ?_
  have hl:=int_text_length_le (k:=1920) (by decide) hi
  have hz:(Str.empty ++ c ++ Str.ofString (toString i)).length≤sizeLine:=line4000 (by rw [strLen_append,strLen_append,PySem.ofString_length,z0]; omega)
  exact ⟨hz,joinParts_nil ⟨.str _,H1,I1.tok _,⟨_,rfl⟩,q _⟩ hz⟩
end
end L2
namespace L2
open PySem PySem.Spec PyProof.Rows
structure Dn (P:Program) (w:World) (K:PySem.W.Frag) (mg:Str→Option Value) (base:Heap) (k:Nat) (x:Str) (ps:List Str) (sp:Sp):Prop where
  ex:∃ f fd,mg x=some (.ref f)∧PySem.W.keepIn K (.ref f)=true∧Binds K fd ps []∧FnOk P w K mg base (CXE P w) k f fd ps sp
structure Mth (P:Program) (w:World) (K:PySem.W.Frag) (mg:Str→Option Value) (base:Heap) (k:Nat) {ι:Type} (cl:ι→Addr) (m:Str) (ps:List Str) (sp:ι→Sp):Prop where
  ex:∀ i,Cls K (cl i)∧∃ f fd,Meth K (cl i) m f∧Binds K fd ps []∧FnOk P w K mg base (CXE P w) k f fd ps (sp i)
structure Mkr (P:Program) (w:World) (K:PySem.W.Frag) (mg:Str→Option Value) (base:Heap) (k:Nat) (x:Str) (C:Addr) (ps:List Str) (sp:Sp):Prop where
  mgx:mg x=some (.ref C)
  ex:∃ f fd,Mk K C f∧Binds K fd ps []∧FnOk P w K mg base (CXE P w) k f fd ps sp
structure Mk0 (K:PySem.W.Frag) (mg:Str→Option Value) (x:Str) (C:Addr):Prop where
  mgx:mg x=some (.ref C)
  makes:PySem.W.makesIn K C=true
  init:PySem.W.findIn K (.ref C) "__init__"=some (some (.builtin "object.__init__"))
  kp:PySem.W.keepIn K (.ref C)=true
theorem passE0 {P:Program} {w:World} {X:Cx}:Passes (CXE P w) X E0:=fun _ _ _ _ _ _ _ ⟨_,_,_,_,_,_,_,_,_,q⟩=>q.elim
section
variable {X : Cx} {k : Nat} {C : Addr} {ι : Type} {cl : ι → Addr} {ps : List Str} {sp : Sp} {spi : ι → Sp} {E : XK} {x m : Str} {p pos apos : Pos} {e o : Expr} {es : List Expr} {ta : TE} {t : TA}
def tCallD (sp:Sp) (E:XK) (t:TA):TE:=fun σ H Q=>t σ H fun vs H1=>sp vs H1 Q E
theorem pe_callD (D:Dn X.prog X.w X.K X.mg X.base k x ps sp) (hr:Room k X.A) (hg:Gl X x) (hx:Passes (CXE X.prog X.w) X E) (ha:PA X (e :: es) t) (hdb:(x == ("__debug__":Str))=false:=by decide)
    (he:starEach (e :: es) X.env=(false,eval e X.env) :: starEach es X.env:=by rfl) (hpl:(backTo pos (starEach es X.env)).any (·.1)=false:=by rfl):PE X (.Call (.Name x p) (e :: es) [] pos) (tCallD sp E t):=by
  obtain ⟨f,fd,hm,hk,hb,F⟩:=D.ex
  have z:=pe_call (p:=p) (pos:=pos) F hr hg hm hk hb .nil hx ha hdb he hpl
  unfold tCall at z
  simp only [List.append_nil] at z
  exact z
def tMethV {ι:Type} (cl:ι→Addr) (m:Str) (sp:ι→Sp) (E:XK) (ta:TE) (t:TA):TE:=fun σ H Q=>ta σ H fun x H1=>∃ i a dx fs,x=.ref a∧H1 a=some (.ins (cl i) dx fs)∧fs.lookup m=none∧t σ H1 fun vs H2=>sp i (x :: vs) H2 Q E
theorem pe_methV {pl:Sem Bool} (he:PE X o ta) (V:Mth X.prog X.w X.K X.mg X.base k cl m ps spi) (hr:Room k X.A) (hx:Passes (CXE X.prog X.w) X E) (ha:PA X (e :: es) t)
    (hst:starEach (e :: es) X.env=(false,eval e X.env) :: starEach es X.env:=by rfl) (hpl:(backTo pos (starEach es X.env)).any (·.1)=false:=by rfl)
    (ht:eval (.Call (.Attribute o m apos) (e :: es) [] pos) X.env=(do
      let ov ← eval o X.env
      standAt apos.atName
      let (f,first) ← holding [ov] (getMethod ov m pl)
      callWith pos f first (backTo pos (starEach (e :: es) X.env)) (backToKw pos (keywordEach [] X.env))):=by rfl) :
    PE X (.Call (.Attribute o m apos) (e :: es) [] pos) (tMethV cl m spi E ta t):=by
  intro pins s σ H Q I h
  refine PySem.W.methodCall_KW (pl:=pl) (thn (he pins s σ H _ I h) fun u s1 ⟨x,H1,I1,rx,i,a,dx,fs,ex,ea,l,q⟩=>?_) ht
  subst ex
  obtain rfl:u=Value.ref a:=rx
  obtain ⟨c,f,fd,hm,hb,F⟩:=V.ex i
  refine getmeth_ok I1 ea c hm l ?_
  refine PySem.W.callWith_K (first:=[.ref a]) (h₀:=X.base) I.ok.mod.kin hm.kp (thn (ha pos pins s1 σ H1 _ I1 q) fun us s2 ⟨vs,H2,I2,r,q2⟩=>⟨I2.kIn,?_⟩) hst hpl
  exact run_fn (us:=.ref a :: us) (vs:=.ref a :: vs) (dvs:=[]) F hr hb .nil hx I2 (.cons rfl r) (by rw [List.append_nil]; exact q2)
theorem pe_methV0 {pl:Sem Bool} (he:PE X o ta) (V:Mth X.prog X.w X.K X.mg X.base k cl m ps spi) (hr:Room k X.A) (hx:Passes (CXE X.prog X.w) X E)
    (ht:eval (.Call (.Attribute o m apos) [] [] pos) X.env=(do
      let ov ← eval o X.env
      standAt apos.atName
      let (f,first) ← holding [ov] (getMethod ov m pl)
      callWith pos f first (backTo pos (starEach [] X.env)) (backToKw pos (keywordEach [] X.env))):=by rfl) :
    PE X (.Call (.Attribute o m apos) [] [] pos) (tMethV cl m spi E ta tNil):=by
  intro pins s σ H Q I h
  refine PySem.W.methodCall_KW (pl:=pl) (thn (he pins s σ H _ I h) fun u s1 ⟨x,H1,I1,rx,i,a,dx,fs,ex,ea,l,q⟩=>?_) ht
  subst ex
  obtain rfl:u=Value.ref a:=rx
  obtain ⟨c,f,fd,hm,hb,F⟩:=V.ex i
  refine getmeth_ok I1 ea c hm l ?_
  exact PySem.W.callWith_K0 (first:=[.ref a]) I1.kIn hm.kp (run_fn (us:=[.ref a]) (vs:=[.ref a]) (dvs:=[]) F hr hb .nil hx I1 (.cons rfl .nil) q)
def tMakeD (C:Addr) (sp:Sp) (E:XK) (t:TA):TE:=fun σ H Q=>t σ H fun vs H1=>∀ x dx,H1 x=none→H1 dx=none→dx≠x →
  sp (.ref x :: vs) (upd (upd H1 dx (.own x)) x (.ins C dx [])) (fun v H2=>v=.non∧Q (.ref x) H2) E
theorem pe_makeD (M:Mkr X.prog X.w X.K X.mg X.base k x C ps sp) (hr:Room (k + 1) X.A) (hg:Gl X x) (hx:Passes (CXE X.prog X.w) X E) (ha:PA X (e :: es) t) (hdb:(x == ("__debug__":Str))=false:=by decide)
    (he:starEach (e :: es) X.env=(false,eval e X.env) :: starEach es X.env:=by rfl) (hpl:(backTo pos (starEach es X.env)).any (·.1)=false:=by rfl):PE X (.Call (.Name x p) (e :: es) [] pos) (tMakeD C sp E t):=by
  obtain ⟨f,fd,mk,hb,F⟩:=M.ex
  have z:=pe_make (p:=p) (pos:=pos) mk F hr hg M.mgx hb .nil hx ha hdb he hpl
  unfold tMake at z
  simp only [List.append_nil] at z
  exact z
def tMakeN (C:Addr):TE:=fun _ H Q=>∀ x dx,H x=none→H dx=none→dx≠x→Q (.ref x) (upd (upd H dx (.own x)) x (.ins C dx []))
theorem pe_makeN (M:Mk0 X.K X.mg x C) (hg:Gl X x) (hdb:(x == ("__debug__":Str))=false:=by decide):PE X (.Call (.Name x p) [] [] pos) (tMakeN C):=by
  intro pins s σ H Q I h
  refine wpAny_Call_Name_kw (ld_glob I hg M.mgx ?_ hdb)
  refine PySem.W.callWith_K0 I.kIn M.kp ?_
  have hq:=h (s.heap.objs.size + 1) s.heap.objs.size (I.hok.fresh (Nat.le_succ _)) (I.hok.fresh (Nat.le_refl _)) (Nat.ne_of_lt (Nat.lt_succ_self _))
  have I2:=Inv.made (C:=C) I
  have Y:=PySem.W.makes_of (M:=model X.prog X.w) I.kIn M.makes
  have e2:((s.heap.push PySem.W.emptyDict).push (PySem.W.instObj C s.heap.objs.size)).get? (s.heap.objs.size + 1)=some (PySem.W.instObj C s.heap.objs.size):=by
    have:=Heap.get?_push_size (s.heap.push PySem.W.emptyDict) (o:=PySem.W.instObj C s.heap.objs.size) rfl
    rwa [Heap.size_push] at this
  have t1:PySem.W.Looks (model X.prog X.w) ((s.heap.push PySem.W.emptyDict).push (PySem.W.instObj C s.heap.objs.size)) (typeOf (.ref (s.heap.objs.size + 1))) (.ref C):=(PySem.W.Looks.ld e2).andThen .now
  have t2:PySem.W.Looks (model X.prog X.w) ((s.heap.push PySem.W.emptyDict).push (PySem.W.instObj C s.heap.objs.size)) (isInstance (.ref (s.heap.objs.size + 1)) (.type "object")) true:=t1.andThen (Y.top.keeps fun b o e=>Heap.get?_push_of_some _ (Heap.get?_push_of_some _ e))
  refine wpAny_call (make_map0 I.kIn M.makes M.init (fun self=>PySem.W.Looks.of_pure (PySem.W.oi_bind self)) ?_)
  refine codeAny_call_builtin PySem.W.oi_plain PySem.W.entry_oi (@PySem.W.check_slot (model X.prog X.w) _ _ _ "object.__init__" "object" "__init__" (.ref (s.heap.objs.size + 1)) [] [] _ PySem.W.oi_kind PySem.W.oi_split t2 (PySem.W.oi_args (.ref (s.heap.objs.size + 1))) ?_)
  rw [PySem.W.oi_run]
  exact wpAny_pure (And.intro rfl ⟨.ref (s.heap.objs.size + 1),_,I2,rfl,hq⟩)
end
section
variable {P : Program} {w : World} {K : PySem.W.Frag} {mg : Str → Option Value} {base : Heap}
theorem Fun.okX {x qual:Str} {st:Stmt} {f:Addr} {fd:FuncData} {N ps:List Str} {k:Nat} {sp:Sp} (F:Fun K x qual st f fd) (S:FnScope N ps (defScope st)) (len:∀ vs H Q E,sp vs H Q E→vs.length=ps.length)
    (hbody:∀ (cdv:Value) (A:Around) (outer:List Env) (s:Shared) (H:Hp) (vs:List V) (Q:VK) (E:XK),Room k (A.deeper (envOfC qual (defScope st) s.heap.objs.size f cdv))→sp vs H Q E →
      ∃ t,PSs (cxOf (CXE P w) P w K mg base N qual (defScope st) f cdv A outer s H E) (defBody st) t∧t { nx:=fun _ H'=>Q .non H',rt:=Q } (start N vs) H):FnOk P w K mg base (CXE P w) (k + 1) f fd ps sp:=by
  obtain ⟨oc,od,kV,doc,pm,an,cdv,ct,osl,rfl,lk,hcd⟩:=F.ex
  exact fn_of lk hcd S len fun A outer s H vs Q E hr hsp=>hbody cdv A outer s H vs Q E hr hsp
theorem Fun.okN {x qual:Str} {st:Stmt} {f:Addr} {fd:FuncData} {N ps:List Str} {k:Nat} {sp:Sp} (F:Fun K x qual st f fd) (S:FnScope N ps (defScope st)) (len:∀ vs H Q E,sp vs H Q E→vs.length=ps.length)
    (hbody:∀ (cdv:Value) (A:Around) (outer:List Env) (s:Shared) (H:Hp) (vs:List V) (Q:VK) (E:XK),Room k (A.deeper (envOfC qual (defScope st) s.heap.objs.size f cdv))→sp vs H Q E →
      ∃ t,PSs (cxOf (CXE P w) P w K mg base N qual (defScope st) f cdv A outer s H E).nox (defBody st) t∧t { nx:=fun _ H'=>Q .non H',rt:=Q } (start N vs) H):FnOk P w K mg base (CXE P w) (k + 1) f fd ps sp :=
  F.okX S len fun cdv A outer s H vs Q E hr hsp=>let ⟨t,h,q⟩:=hbody cdv A outer s H vs Q E hr hsp; ⟨t,h.nox,q⟩
structure DefAt (K:PySem.W.Frag) (mg:Str→Option Value) (x:Str) (st:Stmt):Prop where
  ex:∃ f fd,mg x=some (.ref f)∧Fun K x x st f fd
structure MthAt (K:PySem.W.Frag) (C:Addr) (m qual:Str) (st:Stmt):Prop where
  ex:∃ f fd,PySem.W.findIn K (.ref C) m=some (some (.ref f))∧PySem.W.isFn K (.ref f)=true∧Fun K m qual st f fd
theorem defAt_mk {x:Str} {st:Stmt} {f:Addr} {h:Heap} {oc:Value} {od an:Option Addr} {osl:Array (Option Value)} {kV doc pm cdv ct:Value} (X:K.In h) (G:h.Ns mainGlobals mg) (a:PySem.W.nsIn K mainGlobals x=some (some (.ref f)))
    (l:K.lookup f=some ⟨oc,od,.func (PySem.W.fnOf x x (defArgs st) (defBody st) (defScope st) .none kV doc pm an cdv ct),osl⟩)
    (c:PySem.W.codeIn K cdv x=true) (k:PySem.W.keepIn K (.ref f)=true):DefAt K mg x st:=⟨f,_,PySem.W.mg_of X G a,fun_mk l c k⟩
theorem mthAt_mk {C:Addr} {m qual:Str} {st:Stmt} {f:Addr} {oc:Value} {od an:Option Addr} {osl:Array (Option Value)} {kV doc pm cdv ct:Value} (a:PySem.W.findIn K (.ref C) m=some (some (.ref f))) (i:PySem.W.isFn K (.ref f)=true)
    (l:K.lookup f=some ⟨oc,od,.func (PySem.W.fnOf m qual (defArgs st) (defBody st) (defScope st) .none kV doc pm an cdv ct),osl⟩)
    (c:PySem.W.codeIn K cdv qual=true) (k:PySem.W.keepIn K (.ref f)=true):MthAt K C m qual st:=⟨f,_,a,i,fun_mk l c k⟩
end
end L2
namespace L2
open PySem
theorem bt_len:bootBuiltins "len"=some (.builtin "len"):=by decide +kernel
theorem bt_min:bootBuiltins "min"=some (.builtin "min"):=by decide +kernel
theorem bt_max:bootBuiltins "max"=some (.builtin "max"):=by decide +kernel
theorem bt_isinstance:bootBuiltins "isinstance"=some (.builtin "isinstance"):=by decide +kernel
theorem bt_int:bootBuiltins "int"=some (.type "int"):=by decide +kernel
theorem bt_bool:bootBuiltins "bool"=some (.type "bool"):=by decide +kernel
theorem bt_tuple:bootBuiltins "tuple"=some (.type "tuple"):=by decide +kernel
theorem bt_list:bootBuiltins "list"=some (.type "list"):=by decide +kernel
theorem bt_ValueError:bootBuiltins "ValueError"=some (.type "ValueError"):=by decide +kernel
end L2
namespace L2
theorem iteEqI {i j:Int} {A B:Prop} (h1:i=j→A) (h2:i≠j→B):if decide (V.int i=V.int j)=true then A else B :=
  ite2 (fun c=>h1 (V.int.inj (of_decide_eq_true c))) (fun c=>h2 fun z=>c (decide_eq_true (congrArg V.int z)))
theorem iteNeI {i j:Int} {A B:Prop} (h1:i≠j→A) (h2:i=j→B):if (!decide (V.int i=V.int j))=true then A else B:=by
  by_cases h:i=j
  · rw [decide_eq_true (congrArg V.int h)]; exact iteF (h2 h)
  · rw [decide_eq_false (fun z=>h (V.int.inj z))]; exact iteT (h1 h)
theorem iteD {c A B:Prop} [Decidable c] (h1:c→A) (h2:¬ c→B):if decide c=true then A else B :=
  ite2 (fun z=>h1 (of_decide_eq_true z)) (fun z=>h2 fun y=>z (decide_eq_true y))
theorem iteB {b:Bool} {A B:Prop} (h1:b=true→A) (h2:b=false→B):if b=true then A else B:=by
  cases b with
  | true=>exact iteT (h1 rfl)
  | false=>exact iteF (h2 rfl)
theorem same_one {H:Hp} {x:PySem.Addr} {o:HO} (h:H x=Option.none):Same H (upd H x o):=fun b u e=>by rw [upd_ne (ne_of_none e h)]; exact e
theorem same_two {H:Hp} {x dx:PySem.Addr} {o u:HO} (h:H x=Option.none) (h2:H dx=Option.none):Same H (upd (upd H dx u) x o):=fun b v e=>by rw [upd_ne (ne_of_none e h),upd_ne (ne_of_none e h2)]; exact e
theorem kit_self {K:PySem.W.Frag} {c:PySem.Value}:PySem.W.kitOne K c c=some true:=by unfold PySem.W.kitOne; rw [if_pos (beq_self_eq_true c)]
theorem Same.tup {K:PySem.W.Frag} {H H':Hp} {a:PySem.Addr} {xs:List V} (e:Same H H') (h:SqT K H a xs):SqT K H' a xs:=by
  rcases h with (h | ⟨o,h⟩) | h
  · exact .inl (.inl (e _ _ h))
  · exact .inl (.inr ⟨o,e _ _ h⟩)
  · exact .inr h
end L2
namespace L2
end L2
namespace L2
open PySem
section
variable {X : Cx} {es : List Expr} {env : Env}
theorem st_Constant {c j p}:starEach (.Constant c j p :: es) env=(false,eval (.Constant c j p) env) :: starEach es env:=by rfl
theorem st_Name {c p}:starEach (.Name c p :: es) env=(false,eval (.Name c p) env) :: starEach es env:=by rfl
theorem st_BinOp {a o b p}:starEach (.BinOp a o b p :: es) env=(false,eval (.BinOp a o b p) env) :: starEach es env:=by rfl
theorem st_UnaryOp {o b p}:starEach (.UnaryOp o b p :: es) env=(false,eval (.UnaryOp o b p) env) :: starEach es env:=by rfl
theorem st_Call {a o b p}:starEach (.Call a o b p :: es) env=(false,eval (.Call a o b p) env) :: starEach es env:=by rfl
theorem st_Tuple {a o p}:starEach (.Tuple a o p :: es) env=(false,eval (.Tuple a o p) env) :: starEach es env:=by rfl
theorem st_List {a p}:starEach (.List a p :: es) env=(false,eval (.List a p) env) :: starEach es env:=by rfl
theorem st_Subscript {a b p}:starEach (.Subscript a b p :: es) env=(false,eval (.Subscript a b p) env) :: starEach es env:=by rfl
theorem st_Attribute {a b p}:starEach (.Attribute a b p :: es) env=(false,eval (.Attribute a b p) env) :: starEach es env:=by rfl
theorem st_JoinedStr {a p}:starEach (.JoinedStr a p :: es) env=(false,eval (.JoinedStr a p) env) :: starEach es env:=by rfl
end
end L2
namespace L2
theorem t_or_eq {σ:St} {H:Hp} {i:Nat} {x j k:Int} {A B:Hp→Prop} (e:σ[i]?=some (some (.int x))) (h1:x=j∨x=k→A H) (h2:¬ (x=j∨x=k)→B H) :
    tOr (tTest (tOp rEq (tVar i) (tC (.int j)))) (tTest (tOp rEq (tVar i) (tC (.int k)))) σ H (fun c H1=>if c=true then A H1 else B H1) :=
  ⟨_,e,rfl,_,rfl,iteEqI (fun z=>iteT (h1 (.inl z))) (fun z=>⟨_,e,rfl,_,rfl,iteEqI (fun y=>h1 (.inr y)) (fun y=>h2 fun u=>u.elim z y)⟩)⟩
end L2
namespace L2
open PySem PySem.Spec PyProof.Rows
section
variable {X : Cx} {e : Expr} {te : TE} {pos p3 p4 : Pos} {c : Str} {k : Nat}
theorem op_fdivA (ht:X.prog.given.tree=none) (hd:X.A.depth + 100 < recursionLimit) (hst:X.stack=X.env :: X.outer) (hgen:X.env.scope.isGenerator=false) (hco:X.env.scope.isCoroutine=false) :
    OpR X (binaryOp .FloorDiv) (rI (fun _ j=>0 < j) fun i j=>.int (i / j)):=by
  intro pins s σ H x y v u Q I rx ry h
  obtain ⟨i,j,rfl,rfl,hc,q⟩:=h
  obtain ⟨t,rfl⟩:=rx
  obtain ⟨t',rfl⟩:=ry
  have seer:s.heap.NoSeer:=I.ok.mod.seer.keeps I.bk
  refine floordiv_int (by omega) ?_ (.inr (PylongRoom.of I.nolimit hd (SeerAt.of seer ht (by rw [I.ok.frames,hst]) hgen hco I.ok.blt I.ok.glob)))
  rw [Int.fdiv_eq_ediv_of_nonneg _ (by omega)]
  exact ⟨.int (i / j),H,I.tok _,⟨_,rfl⟩,q⟩
end
structure InsK (K:PySem.W.Frag) (C:Addr):Prop where
  ha:PySem.W.findIn K (.ref C) "__class__"=some (some (.builtin "object.__class__"))
  hn:PySem.W.specialIn K (.builtin "object.__class__") "__get__"=some (some (.builtin "getset_descriptor.__get__"))
  htk:PySem.W.takesIn K (.builtin "object.__class__")=some true
  hm:PySem.W.mroIn K C (.type "object")=some true
theorem TyX.ins {K:PySem.W.Frag} {H:Hp} {a C dx:Addr} {fs:List (Str × V)} (e:H a=some (.ins C dx fs)) (cl:Cls K C) (i:InsK K C):TyX K H (.ref a) (.ref C):=.of (.ins e cl i.ha i.hn i.htk i.hm)
end L2
namespace L2
open PySem PySem.Spec PyProof.Rows
section
variable {P : Program} {w : World} {H : Hp} {h h' : Heap} {a : Addr} {o : HO}
theorem HOk.track (x:HOk P w H h) {ch:List Addr} (k:∀ b u,b ∉ ch→h.get? b=some u→h'.get? b=some u) (hch:∀ b∈ch,H b=none) (hn:H a=none) (new:ObjOk P w (upd H a o) h' a o):HOk P w (upd H a o) h':=fun b u e=>by
  by_cases hb:b=a
  · subst hb; rw [upd_same] at e; cases e; exact new
  · rw [upd_ne hb] at e
    refine (x b u e).stay (fun c v hc q=>k c v (fun z=>?_) q) (fun c q=>by rw [upd_ne (ne_of_none q hn)]; exact q) fun c xs q=>by rw [upd_ne (ne_of_none q hn)]; exact q
    have z:=hch c z
    rcases hc with rfl | hc
    · rw [e] at z; cases z
    · rw [hc] at z; cases z
end
def Ite (K:PySem.W.Frag) (a:Addr):It :=
  ⟨fun i H=>∃ xs x,SqL K H a xs∧xs[i]?=some x,fun i H v H'=>∃ p x,v=.ref p∧H p=none∧H'=upd H p (.tup [.int (i:Nat),x])∧∀ xs,SqL K H a xs→xs[i]?=some x,fun i H=>∃ xs,SqL K H a xs∧xs.length≤i⟩
theorem turn_enum {P:Program} {w:World} {K:PySem.W.Frag} {elts:List Expr} {kt:Nat} {pt:Pos} (a e it:Addr) (hne:e≠it):Turn P w K (.Tuple elts kt pt) (Ite K a) [e,it] e (fun i h=>(∃ old,IsEnum h e it (i:Nat) old)∧h.IsListIter it a i) where
  mem:=by simp
  obj:=fun i h st b hb=>by
    obtain ⟨⟨old,st⟩,o,e1,c,d⟩:=st
    rcases List.mem_cons.mp hb with rfl | hb
    · exact ⟨_,st,fun v z=>by
        have z':Data.fields _=Data.cell v:=z
        cases z'⟩
    · have e2:b=it:=by simpa using hb
      subst e2
      exact ⟨o,e1,fun v z=>by rw [d] at z; cases z⟩
  keep:=fun i h h' st k=>⟨let ⟨old,st⟩:=st.1; ⟨old,k e (by simp) _ st⟩,st.2.at fun o q=>k it (by simp) o q⟩
  item:=by
    intro X hP hw hK hc i pins s σ H E I hf st hg
    subst hP hw hK
    obtain ⟨xs,x,hq,hx⟩:=hg
    obtain ⟨its,rv,p,hz⟩:=I.list hq
    obtain ⟨u,hu,ru⟩:=rv.get hx
    obtain ⟨⟨old,st1⟩,st2⟩:=st
    refine wpAny_pyNext_enum_item st1 st2 p.isList (x:=u) (by simpa using hu) hne fun h1 heo hit1 ht1 hz1 hk1=>?_
    refine ⟨_,rfl,wpAny_letOwnedTupleGo_enum heo fun h2 he2 hs2=>?_⟩
    replace hs2:Heap.SameBut e h1 h2:=hs2
    have hp:H s.heap.objs.size=none:=I.hok.fresh (Nat.le_refl _)
    have le:e < s.heap.objs.size:=Heap.lt_size st1
    have ht2:h2.get? s.heap.objs.size=some { cls:=.type "tuple",data:=.seq #[.int i s.toks,u] }:=(hs2.2 _ (Nat.ne_of_gt le)).trans ht1
    have kk:∀ b o,b ∉ [e,it]→s.heap.get? b=some o→h2.get? b=some o:=fun b o hb q=>by
      simp only [List.mem_cons,List.not_mem_nil,or_false,not_or] at hb
      exact hs2.extBut b o hb.1 (hk1 b o hb.1 hb.2 q)
    have nn:∀ b∈[e,it],H b=none:=fun b hb=>(hf b hb).1
    have ok2:HOk X.prog X.w (upd H s.heap.objs.size (.tup [.int (i:Nat),x])) h2:=I.hok.track (ch:=[e,it]) kk nn hp ⟨by show 2≤sizeLine; decide,[.int i s.toks,u],.cons ⟨_,rfl⟩ (.cons ru .nil),_,ht2,rfl,_,rfl⟩
    have there2:∀ b o,s.heap.get? b=some o→∃ o',h2.get? b=some o':=fun b o q=>by
      by_cases hb:b∈[e,it]
      · rcases List.mem_cons.mp hb with rfl | hb
        · exact ⟨_,he2⟩
        · have e2:b=it:=by simpa using hb
          subst e2
          obtain ⟨o1,q1,_⟩:=hit1
          exact ⟨o1,hs2.extBut _ _ (Ne.symm hne) q1⟩
      · exact ⟨o,kk b o hb q⟩
    have I1:Inv X pins σ (upd H s.heap.objs.size (.tup [.int (i:Nat),x])) { s with heap:=h2,toks:=s.toks + 1 }:=by
      refine I.step (g':=s.gens) (d':=s.drawn) (ch:=[e,it]) (fun b hb=>let ⟨_,f1,_,f3,f4,f5⟩:=hf b hb; ⟨f3,f1,f4,f5⟩) (fun b o _ _ hc q _=>kk b o hc q) (fun b o _ _ hc q _=>⟨o.slots,kk b o hc q⟩)
        (fun b o hc q n=>by rw [upd_ne (Nat.ne_of_lt (Heap.lt_size q))]; exact n) (fun b o hc q=>there2 b o q) (fun b xs q=>by rw [upd_ne (ne_of_none q hp)]; exact q) (fun b o u q=>by rw [upd_ne (ne_of_none q hp)]; exact q) (fun b ps q=>⟨#[],by rw [upd_ne (ne_of_none q hp),q]; simp⟩) (fun m hm=>?_) ok2 I.bare
      obtain ⟨o,es,ep,ho,r⟩:=hm
      refine ⟨o,es,ep,kk _ o (fun z=>?_) ho,r⟩
      exact (hf _ z).2.1 rfl
    refine ⟨.ref s.heap.objs.size,_,I1,rfl,⟨_,x,rfl,hp,rfl,fun ys hy=>by rw [I.list_inj hy hq]; exact hx⟩,⟨⟨_,he2⟩,?_⟩,fun b hb=>?_⟩
    · exact hit1.extBut hs2.extBut (Ne.symm hne)
    · rw [upd_ne (fun z=>?_)]
      · exact nn b hb
      · obtain ⟨o1,q1,_⟩:=st2
        have:=Heap.lt_size q1
        rcases List.mem_cons.mp hb with z2 | hb
        · rw [z2] at z; exact Nat.ne_of_lt le z
        · have e2:b=it:=by simpa using hb
          rw [e2] at z; exact Nat.ne_of_lt this z
  done:=by
    intro X hP hw hK hc i pins s σ H E I hf st hg
    subst hP hw hK
    obtain ⟨xs,hq,hx⟩:=hg
    obtain ⟨its,rv,p,hz⟩:=I.list hq
    obtain ⟨f0,f1,f2,f3,f4,f5⟩:=hf it (by simp)
    obtain ⟨⟨old,st1⟩,st2⟩:=st
    have hl:=rv.length
    exact wpAny_pyNext_enum_end (I.ok.hd hc) st1 st2 p.isList (by simp; omega) fun h' eb=>⟨rfl,I.turned (t':=s.toks) (fun b o hb e=>eb b o hb e) f0 f1 f3 f4 f5⟩
  self:=fun _ _ _ _ _ st h=>let ⟨⟨_,st⟩,_⟩:=st; wpAny_pyIter_enum st h
def iEnum (K:PySem.W.Frag) (ta:TA):TI:=fun σ H R=>ta σ H fun vs H1=>∃ a,vs=[.ref a]∧(∃ xs,SqL K H1 a xs)∧R (Ite K a) H1
theorem pi_enum {X:Cx} {elts:List Expr} {kt:Nat} {pt:Pos} {l:Expr} {ta:TA} {p pos:Pos} (hg:Gl X "enumerate") (hm:X.mg "enumerate"=none) (ha:PA X [l] ta) (hs:starEach [l] X.env=[(false,eval l X.env)]:=by rfl) :
    PI X (.Tuple elts kt pt) (.Call (.Name "enumerate" p) [l] [] pos) (iEnum X.K ta):=by
  intro pins s σ H R I h
  refine Call_ (ld_blt I hg hm boot_enumerate (PyProof.Rows.callWith_type1 (thn (ha pos pins s σ H _ I h) fun us s1 ⟨vs,H1,I1,r1,q1⟩=>?_) hs rfl))
  obtain ⟨a,e,⟨xs,hq⟩,q⟩:=q1
  subst e
  cases r1 with
  | cons r rr =>
    cases rr
    cases r
    obtain ⟨its,rv,p,hz⟩:=I1.list hq
    refine call_enumerate_list p.isList fun h' he hit hsz hk=>?_
    refine wpAny_pyIter_enum (s:={ s1 with heap:=h' }) he ?_
    refine ⟨s1.heap.objs.size + 1,[s1.heap.objs.size + 1,s1.heap.objs.size],_,_,H1,rfl,I1.kept (t':=s1.toks) hk,turn_enum a _ _ (Nat.succ_ne_self _),⟨⟨_,he⟩,hit⟩,fun b hb=>?_,q⟩
    have hb:s1.heap.objs.size≤b:=by
      rcases List.mem_cons.mp hb with rfl | hb
      · exact Nat.le_succ _
      · rw [List.mem_singleton.mp hb]; exact Nat.le_refl _
    exact I1.fpOk hb (I1.hok.fresh hb)
theorem for_enum {K:PySem.W.Frag} {a:Addr} {xs:List V} {g:TG} {tb:TS} {D:Ends} {σ:St} {H:Hp} (Pv:Nat→St→Hp→Prop) (h0:Pv 0 σ H) (hl:∀ i σ H,i≤xs.length→Pv i σ H→SqL K H a xs)
    (hs:∀ i x σ H p,xs[i]?=some x→Pv i σ H→H p=none→g (.ref p) σ (upd H p (.tup [.int (i:Nat),x])) fun σ2 H2=>tb { D with nx:=Pv (i + 1),ct:=Pv (i + 1),bk:=D.nx } σ2 H2) (hd:∀ σ H,Pv xs.length σ H→D.nx σ H) :
    ∃ W:Nat→Nat→St→Hp→Prop,(∃ m,W 0 m σ H)∧∀ i m σ H,W i m σ H →
      ((Ite K a).stop i H∧D.nx σ H)∨((Ite K a).go i H∧∃ N:St→Hp→Prop,(∀ σ' H',N σ' H'→∃ m',m' < m∧W (i + 1) m' σ' H')∧∀ x H',(Ite K a).yld i H x H'→g x σ H' fun σ2 H2=>tb { D with nx:=N,ct:=N,bk:=D.nx } σ2 H2):=by
  refine ⟨fun i m σ H=>m=xs.length - i∧i≤xs.length∧Pv i σ H,⟨xs.length,by simp,Nat.zero_le _,h0⟩,?_⟩
  rintro i m σ H ⟨rfl,hi,p⟩
  have q:=hl i σ H hi p
  by_cases hlt:i < xs.length
  · refine .inr ⟨⟨xs,xs[i],q,by simp [hlt]⟩,Pv (i + 1),fun σ' H' p'=>⟨xs.length - (i + 1),by omega,rfl,hlt,p'⟩,fun v H' y=>?_⟩
    obtain ⟨pt,x,rfl,hn,rfl,y⟩:=y
    exact hs i x σ H pt (y xs q) p hn
  · have e:i=xs.length:=by omega
    subst e
    exact .inl ⟨⟨xs,q,Nat.le_refl _⟩,hd σ H p⟩
end L2
namespace L2
open PySem PySem.Spec PyProof.Rows
structure CA where
  cl:List (Str × Addr)
  C:Addr
  s2:Shared
  H2:Hp
  fp:List Addr
  pn:List (Addr × Obj)
def compX (X:Cx) (N':List Str) (scope:Scope) (c:CA):Cx where
  prog:=X.prog
  w:=X.w
  K:=X.K
  mg:=X.mg
  base:=X.base
  A:=X.A
  N:=N'
  s₀:=c.s2
  H₀:=c.H2
  env:=compEnvC scope c.cl c.C X.env
  outer:=X.stack
  stack:=X.stack
  ex:=c.fp
  fn:=fun _=>false
  calm:=true
  pn:=c.pn
  kn:=fun _=>Option.none
  xe:=fun _ _=>False
structure CompScope (N:List Str) (osc:Scope) (k:Nat) (N':List Str) (fr:List Nat) (scope:Scope):Prop where
  kind:scope.kind=.function
  nocell:∀ y∈scope.names,y.2≠.cell
  names:∀ y∈scope.names,y.2=.local→scope.names.lookup y.1=some .local
  free:∀ y∈scope.names,y.2=.free→osc.names.lookup y.1=some .cell∨osc.names.lookup y.1=some .free
  len:N'.length=k + fr.length
  sl:fr.map (fun i=>N[i]?)=(N'.drop k).map some
  fre:∀ x∈N'.drop k,scope.names.lookup x=some .free
def clOf (names:List (Str × NameKind)) (cells:List (Str × Addr)):List (Str × Addr)→List (Str × Addr) :=
  fun acc=>names.foldl (fun acc y=>if y.2 == .free then (match cells.lookup y.1 with | some c=>(y.1,c) :: acc | none=>acc) else acc) acc
theorem closure_of {env:Env}:∀ (names:List (Str × NameKind)) (acc:List (Str × Addr)),(∀ y∈names,y.2=.free→∃ c,env.cells.lookup y.1=some c) →
    (forIn names acc fun x (r:List (Str × Addr))=>(if (x.2 == NameKind.free)=true then (do let a ← cellOf env x.1; pure (ForInStep.yield ((x.1,a) :: r))) else pure (ForInStep.yield r):Sem _))=pure (clOf names env.cells acc)
  | [],acc,_=>rfl
  | (n,k) :: r,acc,h=>by
    rw [List.forIn_cons]
    by_cases hk:k=.free
    · subst hk
      obtain ⟨c,hc⟩:=h (n,.free) List.mem_cons_self rfl
      have ih:=closure_of r ((n,c) :: acc) fun y hy=>h y (List.mem_cons_of_mem _ hy)
      have hco:cellOf env n=pure c:=by simp only [cellOf,hc]
      simp only [beq_self_eq_true,if_true,hco,pure_bind]
      rw [ih]
      simp only [clOf,List.foldl_cons,beq_self_eq_true,if_true,hc]
    · have hb:(k == NameKind.free)=false:=by simpa using hk
      have ih:=closure_of r acc fun y hy=>h y (List.mem_cons_of_mem _ hy)
      simp only [hb,Bool.false_eq_true,if_false,pure_bind]
      rw [ih]
      simp only [clOf,List.foldl_cons,hb,Bool.false_eq_true,if_false]
theorem closureFor_of {scope:Scope} {env:Env} (h:∀ y∈scope.names,y.2=.free→∃ c,env.cells.lookup y.1=some c):closureFor scope env=pure (clOf scope.names env.cells []):=by
  simp only [closureFor]
  have:=closure_of (env:=env) scope.names [] h
  first
  | (rw [this]; rfl)
  | (refine Eq.trans (congrArg (fun t=>t >>= _) this) ?_; rfl)
end L2
namespace L2
open PySem PySem.Spec PyProof.Rows
theorem clOf_lookup {cells:List (Str × Addr)} {x:Str}:∀ (names:List (Str × NameKind)) (acc:List (Str × Addr)),(∀ c,acc.lookup x=some c→cells.lookup x=some c)→∀ c,(clOf names cells acc).lookup x=some c→cells.lookup x=some c
  | [],_,h,c,e=>h c e
  | (n,k) :: r,acc,h,c,e=>by
    unfold clOf at e
    rw [List.foldl_cons] at e
    refine clOf_lookup r _ ?_ c e
    intro c' e'
    dsimp only at e'
    split at e'
    · split at e'
      · rename_i c2 hc2
        rw [List.lookup_cons] at e'
        split at e'
        · rename_i hx
          have:x=n:=by simpa using hx
          rw [this]; rw [← e']; exact hc2
        · exact h c' e'
      · exact h c' e'
    · exact h c' e'
theorem clOf_l0 {cells:List (Str × Addr)} {x:Str} {names:List (Str × NameKind)} {c:Addr} (h:(clOf names cells []).lookup x=some c):cells.lookup x=some c:=clOf_lookup names [] (fun _ z=>by simp at z) c h
theorem clOf_has {cells:List (Str × Addr)} {x:Str} {c:Addr} (hc:cells.lookup x=some c):∀ (names:List (Str × NameKind)) (acc:List (Str × Addr)),((x,NameKind.free)∈names∨(acc.lookup x).isSome=true)→((clOf names cells acc).lookup x).isSome=true
  | [],_,h=>h.elim (fun z=>nomatch z) id
  | (n,k) :: r,acc,h=>by
    unfold clOf
    rw [List.foldl_cons]
    refine clOf_has hc r _ ?_
    dsimp only
    rcases h with h | h
    · rcases List.mem_cons.mp h with e | h
      · cases e
        right
        rw [if_pos (by rfl),hc]
        simp [List.lookup_cons]
      · exact .inl h
    · right
      split
      · split
        · rw [List.lookup_cons]
          split
          · rfl
          · exact h
        · exact h
      · exact h
theorem relabel_free {env:Env}:∀ {names:List (Str × NameKind)} {x:Str},names.lookup x=some .free →
    (names.map fun (n,k)=>if (k == NameKind.free && env.scope.kind == .function && env.kindOf n == some .cell) then (n,NameKind.cell) else (n,k)).lookup x=some .cell ∨
    (names.map fun (n,k)=>if (k == NameKind.free && env.scope.kind == .function && env.kindOf n == some .cell) then (n,NameKind.cell) else (n,k)).lookup x=some .free
  | [],_,h=>by simp at h
  | (n,k) :: r,x,h=>by
    have ih:=@relabel_free env r x
    rw [List.map_cons]
    dsimp only
    cases hx:x == n with
    | true =>
      simp only [List.lookup_cons,hx] at h
      cases h
      split
      · left; simp only [List.lookup_cons,hx]
      · right; simp only [List.lookup_cons,hx]
    | false =>
      simp only [List.lookup_cons,hx] at h
      split
      · simp only [List.lookup_cons,hx]; exact ih h
      · simp only [List.lookup_cons,hx]; exact ih h
theorem relabel_back {env:Env}:∀ {names:List (Str × NameKind)} {x:Str},(∀ y∈names,y.2≠.cell) →
    ((names.map fun (n,k)=>if (k == NameKind.free && env.scope.kind == .function && env.kindOf n == some .cell) then (n,NameKind.cell) else (n,k)).lookup x=some .cell ∨
    (names.map fun (n,k)=>if (k == NameKind.free && env.scope.kind == .function && env.kindOf n == some .cell) then (n,NameKind.cell) else (n,k)).lookup x=some .free)→(x,NameKind.free)∈names
  | [],_,_,h=>by simp at h
  | (n,k) :: r,x,nc,h=>by
    have ih:=@relabel_back env r x fun y hy=>nc y (List.mem_cons_of_mem _ hy)
    rw [List.map_cons] at h
    dsimp only at h
    cases hx:x == n with
    | true =>
      have e:x=n:=by simpa using hx
      subst e
      by_cases hf:k=.free
      · subst hf; exact List.mem_cons_self
      · exfalso
        have hb:(k == NameKind.free)=false:=by simpa using hf
        rw [hb] at h
        simp only [Bool.false_and,Bool.false_eq_true,if_false,List.lookup_cons,beq_self_eq_true] at h
        rcases h with h | h
        · exact nc (x,k) List.mem_cons_self (Option.some.inj h)
        · exact hf (Option.some.inj h)
    | false =>
      refine List.mem_cons_of_mem _ (ih ?_)
      split at h <;> simpa only [List.lookup_cons,hx] using h
def slots (k:Nat) (fr:List Nat) (σ:St):St:=List.replicate k none ++ fr.map fun i=>(σ[i]?).join
section
variable {X : Cx} {N N' : List Str} {osc scope : Scope} {k : Nat} {fr : List Nat} {pins : List (Addr × Obj)} {σ : St} {H2 : Hp} {s2 : Shared} {fp : List Addr}
theorem comp_ok {C:Addr} {pn:List (Addr × Obj)} (S:CompScope N osc k N' fr scope) (hO:X.env.scope=osc) (hc:X.calm=true) (I:Inv X pins σ H2 s2) (hf:∀ b∈fp,FpOk X pins H2 b) (hlt:∀ b∈fp,b < s2.heap.objs.size) (hC:s2.heap.objs.size≤C) :
    (compX X N' scope ⟨clOf scope.names X.env.cells [],C,s2,H2,fp,pn⟩).Ok where
  mod:=I.ok.mod
  kind:=S.kind
  glob:=I.ok.glob
  blt:=I.ok.blt
  above:=hC
  inj:=fun x y c h1 h2=>I.ok.inj x y c (clOf_l0 h1) (clOf_l0 h2)
  has:=fun x hx=>by
    have hx:=relabel_back (env:=X.env) S.nocell hx
    have:=S.free (x,.free) hx rfl
    rw [← hO] at this
    obtain ⟨c,hc⟩:=I.ok.has x this
    exact Option.isSome_iff_exists.mp (clOf_has hc _ _ (.inl hx))
  cab:=fun x c h=>nomatch h
  hd:=fun _=>I.ok.hd hc
  frames:=I.ok.frames
  stk:=.inl rfl
  exf:=fun b hb=>⟨Nat.ne_of_lt (Nat.lt_of_lt_of_le (hlt b hb) hC),fun x c h=>(hf b hb).2.2.2.2.1 x c (clOf_l0 h)⟩
  bs:=fun b o e=>I.bs b o e
  bsz:=Nat.le_trans I.ok.bsz I.sz
  noex:=fun b o e hb=>by
    rcases (hf b hb).2.2.2.1 with z | z
    · exact I.ok.noex b o e z
    · exact absurd (Nat.lt_of_lt_of_le (Heap.lt_size e) (Nat.le_trans I.ok.bsz z)) (Nat.lt_irrefl _)
  exfs:=fun b hb hz=>by
    rcases List.mem_cons.mp (I.stkSub b hz) with z | z
    · exact (hf b hb).2.1 z
    · exact (hf b hb).2.2.1 z
  funs:=I.stack
  frf:=I.stkFree
theorem comp_inv {C:Addr} {h4:Heap} {tk:Nat} {m:Str→Option Value} {pl:List (Addr × Obj)} (S:CompScope N osc k N' fr scope) (hN:X.N=N) (hO:X.env.scope=osc) (hc:X.calm=true) (I:Inv X pins σ H2 s2) (hf:∀ b∈fp,FpOk X pins H2 b) (hlt:∀ b∈fp,b < s2.heap.objs.size) (hC:s2.heap.objs.size≤C)
    (kk:∀ b o,s2.heap.get? b=some o→h4.get? b=some o) (hn:h4.Ns C m)
    (hpl:∀ p∈pl,h4.get? p.1=some p.2∧s2.heap.objs.size≤p.1∧p.1≠C∧∀ v,p.2.data≠.cell v) :
    Inv (compX X N' scope ⟨clOf scope.names X.env.cells [],C,s2,H2,fp,X.pn ++ pins⟩) pl (slots k fr σ) H2 { s2 with heap:=h4,toks:=tk } where
  ok:=comp_ok S hO hc I hf hlt hC
  os:=rfl
  bare:=I.bare
  base:=Un.kept kk
  loc:=by
    refine ⟨m,hn,fun i x v h1 h2 _=>?_⟩
    have h1:N'[i]?=some x:=h1
    unfold slots at h2
    by_cases hi:i < k
    · rw [List.getElem?_append_left (by simpa using hi),List.getElem?_replicate,if_pos hi] at h2
      cases h2
    · rw [List.getElem?_append_right (by simpa using Nat.le_of_not_lt hi),List.length_replicate,List.getElem?_map] at h2
      cases hj:fr[i - k]? with
      | none=>rw [hj] at h2; cases h2
      | some j =>
        rw [hj] at h2
        have h2:(σ[j]?).join=some v:=Option.some.inj h2
        have h2:σ[j]?=some (some v):=by
          cases q:σ[j]? with
          | none=>rw [q] at h2; cases h2
          | some z=>rw [q] at h2; exact congrArg some h2
        have hd:(N'.drop k)[i - k]?=some x:=by
          rw [List.getElem?_drop]
          rw [show k + (i - k)=i by omega]
          exact h1
        have hx:N[j]?=some x:=by
          have:=congrArg (fun l=>l[i - k]?) S.sl
          simp only [List.getElem?_map,hj,hd,Option.map_some] at this
          exact Option.some.inj this
        have hfx:=S.fre x (List.mem_of_getElem? hd)
        have ho:=S.free (x,.free) (PySem.mem_of_lookup hfx) rfl
        rw [← hO] at ho
        obtain ⟨m0,hn0,hl0⟩:=I.loc
        obtain ⟨u,ru,lu⟩:=hl0 j x v (by rw [hN]; exact hx) h2 (.inr ho)
        refine ⟨u,ru,.inr ⟨relabel_free hfx,?_⟩⟩
        rcases lu with ⟨z,_⟩ | ⟨_,c,hcl,hcell⟩
        · exfalso
          have z:X.env.scope.names.lookup x=some .local:=z
          rcases ho with ho | ho <;> (rw [show X.env.scope.names.lookup x=_ from ho] at z; cases z)
        · obtain ⟨c',hc'⟩:=Option.isSome_iff_exists.mp (clOf_has hcl _ [] (.inl (PySem.mem_of_lookup hfx)))
          have:=clOf_l0 hc'
          rw [hcl] at this
          cases this
          obtain ⟨o,e,d⟩:=hcell
          exact ⟨_,hc',o,kk _ _ e,d⟩
  cell:=fun x c h=>by
    obtain ⟨v,o,e,d⟩:=I.cell x c (clOf_l0 h)
    exact ⟨v,o,kk _ _ e,d⟩
  free:=I.hok.fresh hC
  freeC:=fun x c h=>I.freeC x c (clOf_l0 h)
  pin:=fun p hp=>by
    rcases List.mem_append.mp hp with hp | hp
    · obtain ⟨e,n,ne,nf,d⟩:=I.pin p hp
      refine ⟨kk _ _ e,n,Nat.ne_of_lt (Nat.lt_of_lt_of_le (Heap.lt_size e) hC),fun z=>?_,d⟩
      rcases List.mem_cons.mp (I.stkSub p.1 z) with z | z
      · exact ne z
      · exact nf z
    · obtain ⟨e,a,ne,d⟩:=hpl p hp
      refine ⟨e,I.hok.fresh a,ne,fun z=>?_,d⟩
      rcases List.mem_cons.mp (I.stkSub p.1 z) with z | z
      · exact Nat.ne_of_gt (Nat.lt_of_lt_of_le I.lt a) z
      · exact I.nofs a z
  hok:=I.hok.kept kk
  len:=by
    unfold slots
    rw [List.length_append,List.length_replicate,List.length_map]
    exact S.len.symm
  kno:=fun _ _ z=>nomatch z
end
end L2
namespace L2
open PySem PySem.Spec PyProof.Rows
theorem compLoop_any {prog:Program} {w:World} {A:Around} {R:Result→Shared→Prop} {s:Shared} {elt target iter:Expr} {ifs:List Expr} {scope:Scope} {pos:Pos} {it acc:Value} {env:Env} (I:Nat→Shared→Prop)
    (turn:∀ n s,I n s→wpAny (model prog w) A (pyNext it) (fun r s₁=>match r with
      | none=>R (.ok .next) s₁
      | some v=>wpAny (model prog w) A (letOwnedTupleGo target it v) (fun _ s₁=>wpAny (model prog w) A (assign target env v) (fun _ s₂ =>
          wpAny (model prog w) A (forIn ifs true fun c r=>if r=true then do let ok ← isTrue c env (eval c env); pure (ForInStep.yield ok) else pure (ForInStep.yield r)) (fun ok s₃ =>
            if ok=true then wpAny (model prog w) A (eval elt env) (fun x s₄ =>
              wpAny (model prog w) A (call (.builtin "list.append") [acc,x]) (fun _ s₅=>∃ m,m < n∧I m s₅) (fun _ _=>False) s₄) (fun _ _=>False) s₃
            else ∃ m,m < n∧I m s₃) (fun _ _=>False) s₂) (fun _ _=>False) s₁) (fun _ _=>False) s₁) (fun _ _=>False) s)
    (n:Nat) (h:I n s) :
    codeAny (model prog w) A (.compLoop (.ListComp elt [⟨target,iter,ifs,0⟩] scope pos) 0 it acc env) R s:=by
  refine codeAny_loop rfl I (fun n s hI=>?_) n h
  show wpAny _ A ((compTurn (.ListComp elt [⟨target,iter,ifs,0⟩] scope pos) 0 it acc env).onRaise (fun x=>do noteFrame x env; theTreesLotGoes x)) _ _ s
  refine wpAny_noted ?_
  rw [compTurn_list]
  refine wpAny_bind (wpAny_standAt (wpAny_bind (wpAny_mono (turn n s hI) (fun r s₁ h₁=>?_) fun _ _ h'=>h'.elim)))
  cases r with
  | none=>exact wpAny_pure h₁
  | some v =>
    refine wpAny_bind (wpAny_mono h₁ (fun _ s₁ h₁=>?_) fun _ _ h'=>h'.elim)
    refine wpAny_bind (wpAny_mono h₁ (fun _ s₂ h₂=>wpAny_bind (wpAny_mono h₂ (fun ok s₃ h₃=>?_) fun _ _ h'=>h'.elim)) fun _ _ h'=>h'.elim)
    cases ok with
    | false=>exact wpAny_pure ⟨rfl,h₃⟩
    | true =>
      exact wpAny_bind (wpAny_bind (wpAny_mono h₃ (fun x s₄ h₄=>wpAny_bind (wpAny_mono h₄ (fun _ s₅ h₅=>wpAny_pure (wpAny_pure ⟨rfl,h₅⟩)) fun _ _ h'=>h'.elim)) fun _ _ h'=>h'.elim))
def PTs (X:Cx) (ifs:List Expr) (t:TT):Prop :=
  ∀ (pins:List (Addr × Obj)) (s:Shared) (σ:St) (H:Hp) (Q:Bool→Hp→Prop),Inv X pins σ H s→t σ H Q →
    wpAny (model X.prog X.w) X.A (forIn ifs true fun c r=>if r=true then do let ok ← isTrue c X.env (eval c X.env); pure (ForInStep.yield ok) else pure (ForInStep.yield r)) (TP X pins σ Q) X.xe s
def tTT:TT:=fun _ H Q=>Q true H
theorem pts_nil {X:Cx}:PTs X [] tTT:=fun _ _ _ _ _ I q=>wpAny_tests_nil ⟨_,I,q⟩
theorem pts_one {X:Cx} {c:Expr} {t:TT} (h:PT X c t):PTs X [c] t:=fun pins s σ H Q I q=>wpAny_tests_one (h pins s σ H Q I q)
section
variable {X : Cx} {N N' : List Str} {osc scope : Scope} {k : Nat} {fr : List Nat} {pins : List (Addr × Obj)} {σ : St} {H2 : Hp} {s2 : Shared} {fp : List Addr}
def lo (its:List Value) (n:Nat):Obj:={ cls:=.type "list",data:=.seq its.toArray n }
theorem comp_back {C D:Addr} {H':Hp} {s':Shared} {h'':Heap} {σ':St} {pl:List (Addr × Obj)} {ys:List V} {its:List Value} {n:Nat}
    (I:Inv X pins σ H2 s2) (hf:∀ b∈fp,FpOk X pins H2 b) (hC:s2.heap.objs.size≤C) (hD:s2.heap.objs.size≤D) (hCD:C≠D)
    (J:Inv (compX X N' scope ⟨clOf scope.names X.env.cells [],C,s2,H2,fp,X.pn ++ pins⟩) pl σ' H' s') (hp:(D,lo its n)∈pl) (r:Vals ys its) (hz:ys.length≤sizeLine) (hs:Heap.SameBut C s'.heap h'') :
    Inv X pins σ (upd H' D (.lst ys)) { s' with heap:=h'' }:=by
  have ltC:∀ b o,s2.heap.get? b=some o→b≠C:=fun b o e=>Nat.ne_of_lt (Nat.lt_of_lt_of_le (Heap.lt_size e) hC)
  have ltD:∀ b o,s2.heap.get? b=some o→b≠D:=fun b o e=>Nat.ne_of_lt (Nat.lt_of_lt_of_le (Heap.lt_size e) hD)
  obtain ⟨eD,nD,_,_,_⟩:=J.pin (D,lo its n) (List.mem_append_right _ hp)
  have u:Un (frs X.stack) fp H2 H' s2.heap s'.heap:=J.base
  have u2:Un (frs X.stack) fp H2 (upd H' D (.lst ys)) s2.heap h'':=⟨
    fun b o e n hb hx=>hs.extBut b o (ltC b o e) (u.keep b o e n hb hx),
    fun b o e n hb hx=>let ⟨sl,q⟩:=u.slot b o e n hb hx; ⟨sl,hs.extBut b _ (ltC b o e) q⟩,
    fun b o e n hx=>by rw [upd_ne (ltD b o e)]; exact u.free b o e n hx,
    fun b o e hx=>let ⟨o',q⟩:=u.there b o e hx; ⟨o',hs.extBut b _ (ltC b o e) q⟩,
    fun b xs e=>by rw [upd_ne (ne_of_none (u.tups b xs e) nD)]; exact u.tups b xs e,
    fun b o v e=>by rw [upd_ne (ne_of_none (u.frzs b o v e) nD)]; exact u.frzs b o v e,
    fun b ps e=>let ⟨m,q⟩:=u.tbls b ps e; ⟨m,by rw [upd_ne (ne_of_none q nD)]; exact q⟩⟩
  have ok2:HOk X.prog X.w (upd H' D (.lst ys)) h'':=by
    refine HOk.track (P:=X.prog) (w:=X.w) J.hok (ch:=[C]) (fun b o hb e=>hs.extBut b o (by simpa using hb) e) (fun b hb=>?_) nD ⟨hz,its,n,r,hs.extBut _ _ (Ne.symm hCD) eD⟩
    rw [List.mem_singleton.mp hb]; exact J.free
  exact I.call' (s':={ s' with heap:=h'' }) (ch:=fp) J.os u2 ok2 J.bare fun b hb=>let ⟨_,f1,_,f3,f4,f5⟩:=hf b hb; ⟨f3,f1,f4,f5⟩
end
end L2
namespace L2
open PySem PySem.Spec PyProof.Rows
def CTurn (J:It) (k:Nat) (fr:List Nat) (σ:St) (g:CA→TG) (tt:CA→TT) (te:CA→TE) (W:Nat→Nat→List V→Hp→Prop) (F:List V→Hp→Prop):Prop :=
  ∀ i m ys H,W i m ys H→ys.length≤sizeLine∧∀ ca,(J.stop i H∧F ys H)∨(J.go i H∧ys.length < sizeLine∧∃ Nx:List V→Hp→Prop,(∀ v H',Nx (ys ++ [v]) H'→∃ m',m' < m∧W (i + 1) m' (ys ++ [v]) H')∧(∀ H',Nx ys H'→∃ m',m' < m∧W (i + 1) m' ys H')∧∀ x H',J.yld i H x H'→g ca x (slots k fr σ) H' fun σ2 H2 =>
    (List.drop k σ2=fr.map (fun i=>(σ[i]?).join)∧σ2.length=k + fr.length)∧tt ca σ2 H2 fun b H3 =>
      if b=true then te ca σ2 H3 fun v H4=>Nx (ys ++ [v]) H4 else Nx ys H3)
section
variable {X : Cx} {N N' : List Str} {osc scope : Scope} {k : Nat} {fr : List Nat} {pins : List (Addr × Obj)} {σ : St} {H2 : Hp} {s2 : Shared} {fp : List Addr}
theorem slots_weak {σ2:St} (e1:List.drop k σ2=fr.map (fun i=>(σ[i]?).join)):∀ (i:Nat) v,(slots k fr σ)[i]?=some (some v)→σ2[i]?=some (some v):=fun i v h=>by
  unfold slots at h
  by_cases hi:i < k
  · rw [List.getElem?_append_left (by simpa using hi),List.getElem?_replicate,if_pos hi] at h
    cases h
  · rw [List.getElem?_append_right (by simpa using Nat.le_of_not_lt hi),List.length_replicate,← e1,List.getElem?_drop] at h
    rw [← h,show k + (i - k)=i by omega]
theorem comp_block {elt tg iter:Expr} {ifs:List Expr} {pos:Pos} {J:It} {it:Addr} {tn:Nat→Heap→Prop} {g:CA→TG} {tt:CA→TT} {te:CA→TE} {W:Nat→Nat→List V→Hp→Prop} {F:List V→Hp→Prop}
    {RR:Value→Addr→Result→Shared→Prop} {E:Value→Shared→Prop}
    (S:CompScope N osc k N' fr scope) (hN:X.N=N) (hO:X.env.scope=osc) (hc:X.calm=true) (I:Inv X pins σ H2 s2) (T:Turn X.prog X.w X.K tg J fp it tn) (st2:tn 0 s2.heap) (hf:∀ b∈fp,FpOk X pins H2 b)
    (hb:∀ ca,PG (compX X N' scope ca) tg (g ca)∧PTs (compX X N' scope ca) ifs (tt ca)∧PE (compX X N' scope ca) elt (te ca))
    (w0:∃ m,W 0 m [] H2) (turn:CTurn J k fr σ g tt te W F)
    (hRR:∀ D C h4 σ' H' s' pl ys its n m,s2.heap.objs.size≤C→s2.heap.objs.size≤D→C≠D→Inv (compX X N' scope ⟨clOf scope.names X.env.cells [],C,s2,H2,fp,X.pn ++ pins⟩) pl σ' H' s'→(D,lo its n)∈pl→Vals ys its→ys.length≤sizeLine →
      s'.heap.Ns C m→F ys H'→h4=s'.heap→RR (.ref D) C (.ok .next) s') :
    wpAny (model X.prog X.w) X.A (newList []) (fun acc s3=>wpAny (model X.prog X.w) X.A (newFunctionEnv scope X.env.globals (clOf scope.names X.env.cells []) [] X.env.qual none .none (some X.env)) (fun cenv s4 =>
      codeAny (model X.prog X.w) X.A (.compStart (.ListComp elt [⟨tg,iter,ifs,0⟩] scope pos) 0 (.ref it) acc { cenv with scope:=relabel scope X.env }) (RR acc cenv.locals) s4) E s3) E s2:=by
  refine wpAny_newObj_type (wpAny_newFunctionEnv S.nocell (by intro y hy; simp at hy) (fun h4 hn4 hsb4=>?_) S.kind)
  dsimp only at hn4 hsb4 ⊢
  generalize hH3:s2.heap.push { cls:=.type "list",dict:=none,data:=.seq ([]:List Value).toArray }=H3 at hn4 hsb4 ⊢
  have hCz:H3.objs.size=s2.heap.objs.size + 1:=by rw [← hH3,Heap.size_push]
  have hC:s2.heap.objs.size≤H3.objs.size:=by rw [hCz]; exact Nat.le_succ _
  have hCD:H3.objs.size≠s2.heap.objs.size:=by rw [hCz]; exact Nat.succ_ne_self _
  have hlt:∀ b∈fp,b < s2.heap.objs.size:=fun b hb=>let ⟨_,e,_⟩:=T.obj _ _ st2 b hb; Heap.lt_size e
  have kk:∀ b o,s2.heap.get? b=some o→h4.get? b=some o:=fun b o e=>hsb4.extBut b o (Nat.ne_of_lt (Nat.lt_of_lt_of_le (Heap.lt_size e) hC)) (Heap.get?_push_of_some _ (hH3 ▸ Heap.get?_push_of_some _ e))
  have hacc:h4.get? s2.heap.objs.size=some (lo [] 0):=hsb4.extBut _ _ (Ne.symm hCD) (Heap.get?_push_of_some _ (hH3 ▸ Heap.get?_push_size _ rfl))
  generalize hX':compX X N' scope ⟨clOf scope.names X.env.cells [],H3.objs.size,s2,H2,fp,X.pn ++ pins⟩=X' at hRR
  have eL:X'.env.locals=H3.objs.size:=by rw [← hX']; rfl
  have I4:∀ tk,Inv X' [(s2.heap.objs.size,lo [] 0)] (slots k fr σ) H2 { s2 with heap:=h4,toks:=tk }:=fun tk=>by
    rw [← hX']
    refine comp_inv S hN hO hc I hf hlt hC kk hn4 fun p hp=>?_
    rw [List.mem_singleton.mp hp]
    exact ⟨hacc,Nat.le_refl _,Ne.symm hCD,fun v z=>by
      have z':Data.seq _ _=Data.cell v:=z
      cases z'⟩
  have st4:tn 0 h4:=T.keep _ _ _ st2 fun b _ o e=>kk b o e
  have fpo:∀ {pl:List (Addr × Obj)} {H:Hp},(∀ b∈fp,H b=none)→(∀ p∈pl,p.1=s2.heap.objs.size)→∀ b∈fp,FpOk X' pl H b:=fun {pl H} hn hpl b hb=>by
    obtain ⟨_,f1,f2,f3,f4,f5⟩:=hf b hb
    rw [← hX']
    refine ⟨hn b hb,Nat.ne_of_lt (Nat.lt_of_lt_of_le (hlt b hb) hC),fun z=>?_,.inl hb,fun x c h=>f4 x c (clOf_l0 h),fun p hp z=>?_⟩
    · rcases List.mem_cons.mp (I.stkSub b z) with z | z
      · exact f1 z
      · exact f2 z
    · rcases List.mem_append.mp hp with hp | hp
      · exact f5 p hp z
      · have:=hpl p hp
        rw [z] at this
        exact Nat.ne_of_lt (hlt b hb) this
  have hcX:X'.calm=true:=by rw [← hX']; rfl
  have loop:∀ s3:Shared,(∃ tk,s3={ s2 with heap:=h4,toks:=tk }) →
      codeAny (model X.prog X.w) X.A (.compLoop (.ListComp elt [⟨tg,iter,ifs,0⟩] scope pos) 0 (.ref it) (.ref s2.heap.objs.size) (compEnvC scope (clOf scope.names X.env.cells []) H3.objs.size X.env))
        (RR (.ref s2.heap.objs.size) H3.objs.size) s3:=by
    rintro s3 ⟨tk,rfl⟩
    obtain ⟨m0,w0⟩:=w0
    refine compLoop_any (fun n s'=>∃ i ys its nn H',Inv X' [(s2.heap.objs.size,lo its nn)] (slots k fr σ) H' s'∧Vals ys its∧tn i s'.heap∧(∀ b∈fp,H' b=none)∧W i n ys H') ?_ m0
      ⟨0,[],[],0,H2,I4 tk,.nil,st4,fun b hb=>(hf b hb).1,w0⟩
    rintro n s5 ⟨i,ys,its,nn,H5,I5,r5,st5,fr5,w5⟩
    obtain ⟨hz,tca⟩:=turn i n ys H5 w5
    have e1:X'.prog=X.prog:=by rw [← hX']; rfl
    have e2:X'.w=X.w:=by rw [← hX']; rfl
    have e3:X'.K=X.K:=by rw [← hX']; rfl
    have e4:X'.A=X.A:=by rw [← hX']; rfl
    have e5:X'.xe=fun _ _=>False:=by rw [← hX']; rfl
    have e6:X'.env=compEnvC scope (clOf scope.names X.env.cells []) H3.objs.size X.env:=by rw [← hX']; rfl
    have one:∀ (its:List Value) (nn:Nat),∀ p∈[(s2.heap.objs.size,lo its nn)],p.1=s2.heap.objs.size:=fun its nn p hp=>by rw [List.mem_singleton.mp hp]
    rcases tca ⟨clOf scope.names X.env.cells [],H3.objs.size,s2,H2,fp,X.pn ++ pins⟩ with ⟨stop,fin⟩ | ⟨go,hzz,Nx,nx1,nx2,step⟩
    · have:=T.done X' e1 e2 e3 hcX i _ s5 _ H5 (fun _ _=>False) I5 (fpo fr5 (one its nn)) st5 stop
      rw [e4] at this
      refine thn this fun r s6 ⟨hr,I6⟩=>?_
      subst hr
      obtain ⟨m,hn,_⟩:=I6.loc
      rw [eL] at hn
      exact hRR _ _ s6.heap _ H5 s6 _ ys its nn m hC (Nat.le_refl _) hCD (hX' ▸ I6) List.mem_cons_self r5 hz hn fin rfl
    · have:=T.item X' e1 e2 e3 hcX i _ s5 _ H5 (fun _ _=>False) I5 (fpo fr5 (one its nn)) st5 go
      rw [e4] at this
      refine thn this fun r s6 ⟨u,hr,h6⟩=>?_
      subst hr
      refine thn h6 fun _ s7 ⟨x,H7,I7,r7,y7,st7,fr7⟩=>?_
      have I7':=I7.pinned (fpo fr7 (one its nn)) (T.obj _ _ st7)
      obtain ⟨bg,bt,be⟩:=hb ⟨clOf scope.names X.env.cells [],H3.objs.size,s2,H2,fp,X.pn ++ pins⟩
      rw [hX'] at bg bt be
      have:=bg _ s7 _ H7 x u _ I7' r7 (step x H7 y7)
      rw [e1,e2,e4,e5,e6] at this
      refine thn this fun _ s8 ⟨σ8,H8,I8,⟨d1,d2⟩,q8⟩=>?_
      have:=bt _ s8 σ8 H8 _ I8 q8
      rw [e1,e2,e4,e5,e6] at this
      refine thn this fun ok s9 ⟨H9,I9,q9⟩=>?_
      have wk:∀ {H:Hp} {s:Shared},Inv X' ([(s2.heap.objs.size,lo its nn)] ++ pinsAt fp s7.heap) σ8 H s→Inv X' ([(s2.heap.objs.size,lo its nn)] ++ pinsAt fp s7.heap) (slots k fr σ) H s:=fun J =>
        J.weak (by unfold slots; rw [List.length_append,List.length_replicate,List.length_map]; exact d2.symm) (slots_weak d1) fun _ _ z=>by rw [← hX'] at z; cases z
      have tnk:∀ {H:Hp} {s:Shared} {σ9:St},Inv X' ([(s2.heap.objs.size,lo its nn)] ++ pinsAt fp s7.heap) σ9 H s→tn (i + 1) s.heap∧∀ b∈fp,H b=none:=fun J=>⟨T.keep _ _ _ st7 fun b hb o e=>(J.pin (b,o) (List.mem_append_right _ (List.mem_append_right _ (mem_pinsAt hb e)))).1,fun b hb=>by
        obtain ⟨o,e,d⟩:=T.obj _ _ st7 b hb
        exact (J.pin (b,o) (List.mem_append_right _ (List.mem_append_right _ (mem_pinsAt hb e)))).2.1⟩
      cases ok with
      | false =>
        rw [if_neg Bool.false_ne_true]
        obtain ⟨m',hm,w9⟩:=nx2 _ q9
        exact ⟨m',hm,i + 1,ys,its,nn,H9,(wk I9).unpinned,r5,(tnk I9).1,(tnk I9).2,w9⟩
      | true =>
        rw [if_pos rfl]
        have:=be _ s9 σ8 H9 _ I9 q9
        rw [e1,e2,e4,e5,e6] at this
        refine thn this fun u10 s10 ⟨v,H10,I10,r10,q10⟩=>?_
        obtain ⟨m',hm,w10⟩:=nx1 _ _ q10
        have p10:=I10.pin (s2.heap.objs.size,lo its nn) (List.mem_append_right _ (List.mem_append_left _ List.mem_cons_self))
        have hl:its.length=ys.length:=r5.length.symm
        refine append_at (hsz:=by rw [List.size_toArray,hl]; exact Nat.le_of_lt hzz) p10.1 fun h11 hs11 hD11=>?_
        obtain ⟨t10,f10⟩:=tnk I10
        have J:Inv X' [] (slots k fr σ) H10 s10:=(wk I10).pins_of fun p hp=>nomatch hp
        have ck:∀ x c,X'.env.cells.lookup x=some c→c < s2.heap.objs.size:=fun x c h=>by
          rw [e6] at h
          obtain ⟨_,o,e,_⟩:=I.cell x c (clOf_l0 h)
          exact Heap.lt_size e
        have ns:X'.s₀=s2:=by rw [← hX']; rfl
        have J2:Inv X' [] (slots k fr σ) H10 { s10 with heap:=h11,toks:=s10.toks }:=J.turned (fun b o hb e=>(hs11.2 b hb).trans e) p10.2.1 (by rw [eL]; exact Ne.symm hCD) (.inr (by rw [ns]; exact Nat.le_refl _)) (fun x c h=>Nat.ne_of_lt (ck x c h)) fun p hp z=>by
          rcases List.mem_append.mp hp with hp | hp
          · rw [← hX'] at hp
            have hp:p∈X.pn ++ pins:=hp
            exact Nat.ne_of_lt (Heap.lt_size (I.pin p hp).1) z
          · cases hp
        refine ⟨m',hm,i + 1,ys ++ [v],its ++ [u10],nn + 1,H10,J2.pins_of fun p hp=>?_,r5.append (.cons r10 .nil),T.keep _ _ _ t10 fun b hb o e=>(hs11.2 b (Nat.ne_of_lt (hlt b hb))).trans e,f10,w10⟩
        rw [List.mem_singleton.mp hp]
        refine ⟨?_,p10.2.1,p10.2.2.1,p10.2.2.2.1,fun v z=>by
          have z':Data.seq _ _=Data.cell v:=z
          cases z'⟩
        show h11.get? s2.heap.objs.size=some (lo (its ++ [u10]) (nn + 1))
        rw [hD11]
        simp [lo]
  exact codeAny_compStart_list (loop _ ⟨_,rfl⟩) (T.self _ 0 _ _ _ st4 (loop _ ⟨_,rfl⟩))
end
end L2
namespace L2
open PySem PySem.Spec PyProof.Rows
def tComp (wi:TI) (k:Nat) (fr:List Nat) (g:CA→TG) (tt:CA→TT) (te:CA→TE):TE:=fun σ H Q=>wi σ H fun J H1=>∃ W:Nat→Nat→List V→Hp→Prop,(∃ m,W 0 m [] H1) ∧
  CTurn J k fr σ g tt te W (fun ys H=>∀ p,H p=none→Q (.ref p) (upd H p (.lst ys)))
section
variable {X : Cx} {N N' : List Str} {osc scope : Scope} {k : Nat} {fr : List Nat} {elt tg iter : Expr} {ifs : List Expr} {pos : Pos} {wi : TI} {g : CA → TG} {tt : CA → TT} {te : CA → TE}
theorem pe_comp (S:CompScope N osc k N' fr scope) (hN:X.N=N) (hO:X.env.scope=osc) (hc:X.calm=true) (hi:PI X tg iter wi)
    (hb:∀ ca,PG (compX X N' scope ca) tg (g ca)∧PTs (compX X N' scope ca) ifs (tt ca)∧PE (compX X N' scope ca) elt (te ca))
    (hs:∀ x,foldedSetIterable iter X.env x=pure x:=by intro _; rfl):PE X (.ListComp elt [⟨tg,iter,ifs,0⟩] scope pos) (tComp wi k fr g tt te):=by
  intro pins s σ H Q I h
  rw [eval_ListComp]
  have hcl:closureFor scope X.env=pure (clOf scope.names X.env.cells []):=closureFor_of fun y hy hf=>by
    have:=S.free y hy hf
    rw [← hO] at this
    exact I.ok.has y.1 this
  refine wpAny_comprehension_free (use:=none) rfl hs hcl S.kind S.names (thn (hi pins s σ H _ I h) fun v s1 h1=>thn h1 fun itv s2 h2=>?_)
  obtain ⟨it,fp,tn,J,H2,e,I2,T,st2,f2,W,w0,turn⟩:=h2
  subst e
  refine comp_block S hN hO hc I2 T st2 f2 hb w0 turn fun D C h4 σ' H' s' pl ys its n m hC hD hCD J hp r hz hn fin _=>?_
  refine ⟨m,hn,fun h'' hs''=>⟨.ref D,_,comp_back I2 f2 hC hD hCD J hp r hz hs'',rfl,fin D ?_⟩⟩
  exact (J.pin _ (List.mem_append_right _ hp)).2.1
theorem ps_setC {i:Nat} {x:Str} {pos' spos:Pos} (hNd:X.N.Nodup) (hix:X.N[i]?=some x) (hx:X.env.scope.names.lookup x=some .local) (S:CompScope N osc k N' fr scope) (hN:X.N=N) (hO:X.env.scope=osc) (hc:X.calm=true) (hi:PI X tg iter wi)
    (hb:∀ ca,PG (compX X N' scope ca) tg (g ca)∧PTs (compX X N' scope ca) ifs (tt ca)∧PE (compX X N' scope ca) elt (te ca))
    (hsw:swapsWith (.ListComp elt [⟨tg,iter,ifs,0⟩] scope pos) (some (.Name x pos')) spos.line X.env=pure true:=by rfl) (hkn:X.kn i=Option.none:=by rfl)
    (hs:∀ x,foldedSetIterable iter X.env x=pure x:=by intro _; rfl):PS X (.Assign [.Name x pos'] (.ListComp elt [⟨tg,iter,ifs,0⟩] scope pos) spos) (tAsg (tComp wi k fr g tt te) (gName i)):=by
  intro pins s σ H D0 I h
  have hcl:closureFor scope X.env=pure (clOf scope.names X.env.cells []):=closureFor_of fun y hy hf=>by
    have:=S.free y hy hf
    rw [← hO] at this
    exact I.ok.has y.1 this
  rw [exec_Assign_Name_used _ _ _ _ hsw]
  refine wpAny_bind (wpAny_standAt (wpAny_bind ?_))
  show wpAny _ X.A (do let _ ← comprehension (.ListComp elt [⟨tg,iter,ifs,0⟩] scope pos) scope X.env _ (newList []) false (eval iter X.env) (some (assign (.Name x pos') X.env))) _ _ s
  refine wpAny_bind (thn (wpAny_comprehension_free (use:=some (assign (.Name x pos') X.env)) (Q:=fun _ s'=>SP X pins D0 .next s') rfl hs hcl S.kind S.names (thn (hi pins s σ H _ I h) fun v s1 h1=>thn h1 fun itv s2 h2=>?_))
    fun _ s' hq=>wpAny_pure (wpAny_pure hq))
  obtain ⟨it,fp,tn,J,H2,e,I2,T,st2,f2,W,w0,turn⟩:=h2
  subst e
  refine comp_block S hN hO hc I2 T st2 f2 hb w0 turn fun D C h4 σ' H' s' pl ys its n m hC hD hCD J hp r hz hn fin _=>?_
  have nD:=(J.pin _ (List.mem_append_right _ hp)).2.1
  have B:Inv X pins σ (upd H' D (.lst ys)) s':=comp_back (h'':=s'.heap) I2 f2 hC hD hCD J hp r hz ⟨rfl,fun _ _=>rfl⟩
  obtain ⟨oC,es,ep,eC,dC,rC⟩:=hn
  have cL:C≠X.env.locals:=Nat.ne_of_gt (Nat.lt_of_lt_of_le I2.lt hC)
  have B2:Inv X (pins ++ [(C,oC)]) σ (upd H' D (.lst ys)) s':=B.pins_of fun p hp2=>by
    rcases List.mem_append.mp hp2 with hp2 | hp2
    · exact B.pin p (List.mem_append_right _ hp2)
    · rw [List.mem_singleton.mp hp2]
      exact ⟨eC,by rw [upd_ne hCD]; exact J.free,cL,I2.nofs hC,fun v z=>by rw [dC] at z; cases z⟩
  refine wpAny_assign_Name (store_ok B2 hNd hix (.inl hx) (v:=.ref D) (u:=.ref D) rfl (fun s5 I5=>?_) (.inr hx) hkn)
  have p5:=I5.pin (C,oC) (List.mem_append_right _ (List.mem_append_right _ List.mem_cons_self))
  refine ⟨m,⟨oC,es,ep,p5.1,dC,rC⟩,fun h'' hs''=>⟨_,_,(I5.unpinned).turned (t':=s5.toks) (it:=C) (fun b o hb e=>hs''.extBut b o hb e) p5.2.1 p5.2.2.1 (.inr ?_) (fun y c hy z=>?_) (fun p hp2 z=>?_),fin D nD⟩⟩
  · exact Nat.le_trans I2.sz hC
  · obtain ⟨_,o,e,_⟩:=I2.cell y c hy
    exact Nat.ne_of_lt (Nat.lt_of_lt_of_le (Heap.lt_size e) hC) z
  · exact Nat.ne_of_lt (Nat.lt_of_lt_of_le (Heap.lt_size (I2.pin p hp2).1) hC) z
end
section
variable {k : Nat} {fr : List Nat} {σ : St} {g : CA → TG} {tt : CA → TT} {te : CA → TE} {F : List V → Hp → Prop} {H : Hp}
def CStep (k:Nat) (fr:List Nat) (σ:St) (g:CA→TG) (tt:CA→TT) (te:CA→TE) (ys:List V) (Nx:List V→Hp→Prop) (x:V) (H:Hp):Prop :=
  ∀ ca,g ca x (slots k fr σ) H fun σ2 H2=>(List.drop k σ2=fr.map (fun i=>(σ[i]?).join)∧σ2.length=k + fr.length)∧tt ca σ2 H2 fun b H3=>if b=true then te ca σ2 H3 fun v H4=>Nx (ys ++ [v]) H4 else Nx ys H3
theorem comp_by {J:It} {n:Nat} (Pv:Nat→List V→Hp→Prop) (hz:n < sizeLine) (h0:Pv 0 [] H) (hj:∀ i ys H,i < n→Pv i ys H→J.go i H∧∀ x H',J.yld i H x H'→CStep k fr σ g tt te ys (Pv (i + 1)) x H')
    (hd:∀ ys H,Pv n ys H→J.stop n H∧F ys H):∃ W:Nat→Nat→List V→Hp→Prop,(∃ m,W 0 m [] H)∧CTurn J k fr σ g tt te W F:=by
  refine ⟨fun i m ys H=>m=n - i∧i≤n∧ys.length≤i∧Pv i ys H,⟨n,by simp,Nat.zero_le _,Nat.zero_le _,h0⟩,?_⟩
  rintro i m ys H ⟨rfl,hi,hy,p⟩
  refine ⟨by omega,fun ca=>?_⟩
  by_cases hlt:i < n
  · obtain ⟨go,st⟩:=hj i ys H hlt p
    refine .inr ⟨go,by omega,Pv (i + 1),fun v H' z=>⟨n - (i + 1),by omega,rfl,hlt,by rw [List.length_append,List.length_singleton]; omega,z⟩,fun H' z=>⟨n - (i + 1),by omega,rfl,hlt,by omega,z⟩,fun x H' y=>st x H' y ca⟩
  · have e:i=n:=by omega
    subst e
    exact .inl (hd ys H p)
theorem comp_list {K:PySem.W.Frag} {a:Addr} {xs:List V} (Pv:Nat→List V→Hp→Prop) (hz:xs.length < sizeLine) (h0:Pv 0 [] H) (hl:∀ i ys H,i≤xs.length→Pv i ys H→SqL K H a xs)
    (hs:∀ i x ys H,xs[i]?=some x→Pv i ys H→CStep k fr σ g tt te ys (Pv (i + 1)) x H)
    (hd:∀ ys H,Pv xs.length ys H→F ys H):∃ W:Nat→Nat→List V→Hp→Prop,(∃ m,W 0 m [] H)∧CTurn (Itl K a) k fr σ g tt te W F:=by
  refine comp_by (n:=xs.length) Pv hz h0 (fun i ys H hi p=>⟨⟨xs,xs[i],hl i ys H (Nat.le_of_lt hi) p,by simp [hi]⟩,fun x H' ⟨e,y⟩=>?_⟩) fun ys H p=>⟨⟨xs,hl _ ys H (Nat.le_refl _) p,Nat.le_refl _⟩,hd ys H p⟩
  subst e
  exact hs i x ys _ (y xs (hl i ys _ (Nat.le_of_lt hi) p)) p
theorem comp_range {lo:Int} {n:Nat} (Pv:Nat→List V→Hp→Prop) (hz:n < sizeLine) (h0:Pv 0 [] H)
    (hs:∀ i ys H,i < n→Pv i ys H→CStep k fr σ g tt te ys (Pv (i + 1)) (.int (lo + i)) H)
    (hd:∀ ys H,Pv n ys H→F ys H):∃ W:Nat→Nat→List V→Hp→Prop,(∃ m,W 0 m [] H)∧CTurn (Itr lo n) k fr σ g tt te W F:=by
  refine comp_by (n:=n) Pv hz h0 (fun i ys H hi p=>⟨hi,fun x H' ⟨e,y⟩=>?_⟩) fun ys H p=>⟨Nat.le_refl _,hd ys H p⟩
  subst e y
  exact hs i ys _ hi p
end
end L2
namespace L2
open PySem PySem.Spec PyProof.Rows
abbrev TJ:=St→Hp→(Hp→Prop)→Prop
def PJ (X:Cx) (n:Nat) (vs:List Expr) (t:TJ):Prop :=
  ∀ (pins:List (Addr × Obj)) (s:Shared) (σ:St) (H:Hp) (Q:VK) (acc:Str),acc.length + 3000 * n≤100000→Inv X pins σ H s→t σ H (fun H1=>∀ z:Str,Q (.str z) H1) →
    wpAny (model X.prog X.w) X.A (joinParts acc (evalEach vs X.env)) (EP X pins σ Q) X.xe s
section
variable {X : Cx} {e : Expr} {te : TE} {pos p3 p4 : Pos} {c : Str} {k n : Nat} {vs : List Expr} {t : TJ}
theorem line100 {n:Nat} (h:n≤100000):n≤sizeLine:=by rw [sizeLine_eq]; omega
theorem pj_nil:PJ X 0 [] (fun _ H Q=>Q H):=fun _ _ _ H Q acc ha I h=>joinParts_nil ⟨.str _,H,I.tok _,⟨_,rfl⟩,h _⟩ (line100 (by omega))
theorem pj_str (hv:PJ X n vs t):PJ X (n + 1) (.Constant (.str c) k p3 :: vs) (fun σ H Q=>c.length≤1000∧t σ H Q):=fun pins s σ H Q acc ha I ⟨hc,h⟩=>by
  show wpAny _ _ (joinParts acc (eval (.Constant (.str c) k p3) X.env :: evalEach vs X.env)) _ _ s
  refine joinParts_cons (Calls.Constant_str ?_)
  have I0:Inv X pins σ H { s with toks:=s.toks + 1 }:=I.tok _
  exact ⟨line100 (by rw [strLen_append]; omega),hv pins _ σ H Q _ (by rw [strLen_append]; omega) I0 h⟩
theorem pj_int (he:PE X e te) (hv:PJ X n vs t):PJ X (n + 1) (.FormattedValue e (-1) none p4 :: vs) (fun σ H Q=>te σ H fun x H1=>∃ i,x=.int i∧i.natAbs.log2 < 1920∧t σ H1 Q):=fun pins s σ H Q acc ha I h=>by
  show wpAny _ _ (joinParts acc (eval (.FormattedValue e (-1) none p4) X.env :: evalEach vs X.env)) _ _ s
  refine joinParts_cons (FormattedValue_plain (thn (he pins _ σ H _ I h) fun u s1 ⟨x,H1,I1,rx,i,ex,hi,q⟩=>?_))
  subst ex
  obtain ⟨t,rfl⟩:=rx
  refine formatField_int_small hi ?_
  have hl:=int_text_length_le (k:=1920) (by decide) hi
  have hz:(acc ++ Str.ofString (toString i)).length + 3000 * n≤100000:=by rw [strLen_append,PySem.ofString_length]; omega
  exact ⟨line100 (by omega),hv pins _ σ H1 Q _ hz (I1.tok _) q⟩
def tFsN (t:TJ):TE:=fun σ H Q=>t σ H fun H1=>∀ z:Str,Q (.str z) H1
theorem pe_fstrN {v1 v2:Expr} (hv:PJ X n (v1 :: v2 :: vs) t) (hn:n≤20:=by decide):PE X (.JoinedStr (v1 :: v2 :: vs) pos) (tFsN t):=fun pins s σ H Q I h =>
  JoinedStr_many (hv pins s σ H Q Str.empty (by have:Str.empty.length=0:=rfl; omega) I h)
end
end L2
namespace L2
open PySem PySem.Spec PyProof.Rows
section
variable {env : Env} {es : List Expr}
theorem st_ListComp {a b c p}:starEach (.ListComp a b c p :: es) env=(false,eval (.ListComp a b c p) env) :: starEach es env:=by rfl
end
end L2
namespace L2
def STup (H H':Hp):Prop:=∀ p xs,H p=some (.tup xs)→H' p=some (.tup xs)
theorem same_st {H H':Hp} (e:Same H H'):STup H H':=fun p _ h=>e p _ h
theorem STup.trans {H H' H'':Hp} (e:STup H H') (e':STup H' H''):STup H H'':=fun p xs h=>e' p xs (e p xs h)
theorem stup_lst {H:Hp} {l:PySem.Addr} {ys:List V} {o:HO} (h:H l=some (.lst ys)):STup H (upd H l o):=fun p xs e=>by
  rw [upd_ne (ne_of e h (by intro z; cases z))]; exact e
theorem same_upd {H H':Hp} {l:PySem.Addr} {o:HO} (e:Same H H') (n:H l=Option.none):Same H (upd H' l o):=fun p u h=>by
  rw [upd_ne (ne_of_none h n)]; exact e p u h
theorem same_none {H H':Hp} {l:PySem.Addr} (e:Same H H') (n:H' l=Option.none):H l=Option.none:=by
  cases h:H l with
  | none=>rfl
  | some o=>rw [e _ _ h] at n; cases n
theorem same_lst {K:PySem.W.Frag} {H H':Hp} {a:PySem.Addr} {xs:List V} (e:Same H H') (h:SqL K H a xs):SqL K H' a xs:=by
  rcases h with (h | ⟨o,h⟩) | h
  · exact .inl (.inl (e _ _ h))
  · exact .inl (.inr ⟨o,e _ _ h⟩)
  · exact .inr h
end L2
namespace L2
open PySem PySem.Spec PyProof.Rows
section
variable {X : Cx} {pins : List (Addr × Obj)} {σ : St} {H : Hp} {s : Shared}
end
section
variable {X : Cx} {n : Nat}
theorem Room.al {k:Nat} {A:Around} (r:Room k A) (n:Nat) (h:n≤50:=by decide):A.units + (n + 1) < cLine:=by have:=r.un; omega
end
end L2
namespace L2
theorem seqK {A B:TS} {D:Ends} {σ:St} {H:Hp} (Mid:St→Hp→Prop) (hA:∀ nx:St→Hp→Prop,(∀ σ H,Mid σ H→nx σ H)→A { D with nx:=nx } σ H) (hB:∀ σ H,Mid σ H→B D σ H):tSeq A B D σ H:=hA (B D) hB
end L2
namespace L2
open PySem PySem.Spec PyProof.Rows
structure RoomH (k:Nat) (A:Around):Prop where
  dp:A.depth + 3 * k + 5 < recursionLimit
  un:A.units + 16 * k + 200 < cLine
  gd:A.guards=some []
theorem Room.h {k:Nat} {A:Around} (r:Room k A):RoomH k A:=⟨r.dp,r.un,r.gd⟩
theorem RoomH.mark {k:Nat} {A:Around} {v:Option Value} (r:RoomH k A):RoomH k (A.mark v):=⟨r.dp,r.un,r.gd⟩
structure FnOkH (P:Program) (w:World) (K:PySem.W.Frag) (mg:Str→Option Value) (base:Heap) (CX:CXT) (k:Nat) (f:Addr) (fd:FuncData) (ps:List Str) (sp:Sp):Prop where
  len:∀ vs H Q E,sp vs H Q E→vs.length=ps.length
  run:∀ (A:Around) (outer:List Env) (s:Shared) (H:Hp) (args:Args) (us:List Value) (vs:List V) (Q:VK) (E:XK),RoomH k A→Env0 P w K mg base A outer s H→BindsTo s fd args (ps.zip us)→Vals vs us→sp vs H Q E →
    codeAny (model P w) A (.call (.ref f) args) (CR CX outer P w H s Q E) s
abbrev Cx.dull (X:Cx):Cx:={ X with calm:=false,xe:=fun _ _=>False }
structure Dh (P:Program) (w:World) (K:PySem.W.Frag) (mg:Str→Option Value) (base:Heap) (k:Nat) (x:Str) (ps:List Str) (sp:Sp):Prop where
  ex:∃ f fd,mg x=some (.ref f)∧PySem.W.keepIn K (.ref f)=true∧Binds K fd ps []∧FnOkH P w K mg base (CXE P w) k f fd ps sp
section
variable {X : Cx} {k : Nat} {ps : List Str} {sp : Sp} {E : XK} {x : Str} {p pos : Pos} {e : Expr} {es : List Expr} {t : TA}
end
end L2
namespace L2
open PySem PySem.Spec PyProof.Rows
end L2
namespace L2
open PySem PySem.Spec PyProof.Rows
section
variable {X : Cx} {asg : List Nat} {x : Str} {C : Addr} {b0 : Stmt} {body suite : List Stmt} {tb : XK → List (Addr × Obj) → (Nat → Option V) → (Value → Shared → Prop) → TS} {th : Addr → List (Addr × Obj) → TS} {np pos hpos : Pos}
def tTryAE (K:PySem.W.Frag) (C:Addr) (asg:List Nat) (i:Nat) (tb:XK→List (Addr × Obj)→(Nat→Option V)→(Value→Shared→Prop)→TS) (th:Addr→List (Addr × Obj)→TS):TS:=fun D σ H=>∃ E:XK,tTryA K C E asg i (tb E) th D σ H
theorem ps_tryAE {i:Nat} {n:Str} (hm:X.mg x=some (.ref C)) (hg:Gl X x) (hex:X.ex=[]) (hst:X.stack=X.env :: X.outer∧X.env.frame=some X.env.locals) (hk:∀ i,X.kn i=Option.none)
    (hN:X.N.Nodup) (hi:X.N[i]?=some n) (hl:X.env.scope.names.lookup n=some .local)
    (hb:∀ E pn k xe,Passes (CXE X.prog X.w) (X.tr asg pn k xe) E→PassesOwn (model X.prog X.w) X.A X.env xe→PSs (X.tr asg pn k xe) body (tb E pn k xe))
    (hh:∀ y pn,PSs (X.hd y pn fun _ _=>False) (b0 :: suite) (th y pn)) (hd:(x == ("__debug__":Str))=false:=by decide) :
    PS X (.Try body [.ExceptHandler (some (.Name x np)) (some n) (b0 :: suite) hpos] [] [] pos) (tTryAE X.K C asg i tb th):=fun pins s σ H D I ⟨E,h⟩=>ps_tryA hm hg hex hst hk hN hi hl (hb E) hh hd pins s σ H D I h
end
end L2
namespace L2
open PySem PySem.Spec PyProof.Rows
section
variable {X : Cx}
end
end L2
namespace PySem
namespace F
end F
section
variable {prog : Program} {w : World} {A : Around} {s : Shared} {R : Result → Shared → Prop}
variable {I : Addr} {fp wr : List Addr} {G : Array GenState → Array GenState → Prop} {n : Nat} {P : Nat → Value → Prop} {St : Nat → Shared → Prop}
end
section
variable {prog : Program} {w : World} {A : Around} {E : Value → Shared → Prop} {s : Shared}
end
end PySem
namespace L2
open PySem PySem.Spec PyProof.Rows
section
variable {X : Cx}
end
end L2
namespace L2
open PySem PySem.Spec PyProof.Rows
structure CompScopeM (N:List Str) (osc:Scope) (k:Nat) (N':List Str) (fr:List Nat) (scope:Scope) (xc:Str):Prop where
  kind:scope.kind=.function
  names:∀ y∈scope.names,y.2=.local→scope.names.lookup y.1=some .local
  free:∀ y∈scope.names,y.2=.free→osc.names.lookup y.1=some .cell∨osc.names.lookup y.1=some .free
  len:N'.length=k + fr.length
  sl:fr.map (fun i=>N[i]?)=(N'.drop k).map some
  fre:∀ x∈N'.drop k,scope.names.lookup x=some .free
  sep:∀ x∈N'.drop k,(x,NameKind.cell) ∉ scope.names
  xsep:(xc,NameKind.free) ∉ scope.names
section
variable {X : Cx} {N N' : List Str} {osc scope : Scope} {k : Nat} {fr : List Nat} {pins : List (Addr × Obj)} {σ : St} {H2 : Hp} {s2 : Shared} {fp : List Addr} {xc : Str}
end
section
variable {X : Cx} {N N' : List Str} {osc scope : Scope} {k : Nat} {fr : List Nat} {elt tg iter : Expr} {ifs : List Expr} {pos : Pos} {wi : TI} {g : CA → TG} {tt : CA → TT} {te : CA → TE} {xc : Str}
end
end L2
namespace L2
open PySem PySem.Spec PyProof.Rows
end L2
namespace L2
open PySem PySem.Spec PyProof.Rows
section
variable {κ : Type} [DecidableEq κ]
def valV (kvs:List (κ × V)) (k:κ):Option V:=(kvs.find? fun kv=>decide (kv.1=k)).map (·.2)
def putK (kvs:List (κ × V)) (k:κ) (v:V):List (κ × V) :=
  if (kvs.any fun kv=>decide (kv.1=k))=true then kvs.map (fun kv=>if kv.1=k then (kv.1,v) else kv) else kvs ++ [(k,v)]
def dropK (kvs:List (κ × V)) (k:κ):List (κ × V):=kvs.filter fun kv=>decide (kv.1≠k)
theorem valV_pos {p:κ × V} {r:List (κ × V)} {k:κ} (e:p.1=k):valV (p :: r) k=some p.2:=by simp [valV,List.find?_cons,e]
theorem valV_neg {p:κ × V} {r:List (κ × V)} {k:κ} (e:¬ p.1=k):valV (p :: r) k=valV r k:=by simp [valV,List.find?_cons,e]
theorem valV_any (k:κ):∀ kvs:List (κ × V),(kvs.any fun kv=>decide (kv.1=k))=(valV kvs k).isSome
  | []=>rfl
  | p :: r=>by
    rw [List.any_cons]
    by_cases e:p.1=k
    · simp only [valV_pos e,decide_eq_true e,Bool.true_or,Option.isSome_some]
    · rw [valV_neg e,decide_eq_false e,Bool.false_or]; exact valV_any k r
theorem length_putK (kvs:List (κ × V)) (k:κ) (v:V):(putK kvs k v).length≤kvs.length + 1:=by
  unfold putK
  split
  · rw [List.length_map]; omega
  · rw [List.length_append,List.length_cons,List.length_nil]; omega
theorem putK_new {kvs:List (κ × V)} {k:κ} (v:V) (h:valV kvs k=none):putK kvs k v=kvs ++ [(k,v)]:=by
  unfold putK
  rw [valV_any,h]
  exact if_neg (by decide)
theorem RelO.isSome_eq {o:Option V} {u:Option Value} (r:RelO o u):o.isSome=u.isSome:=by
  cases o with
  | none=>cases u with
    | none=>rfl
    | some _=>exact (show False from r).elim
  | some _=>cases u with
    | none=>exact (show False from r).elim
    | some _=>rfl
theorem RelO.getD {o:Option V} {u:Option Value} {d:V} {d':Value} (r:RelO o u) (rd:RelV d d'):RelV (o.getD d) (u.getD d'):=by
  cases o with
  | none=>cases u with
    | none=>exact rd
    | some _=>exact (show False from r).elim
  | some _=>cases u with
    | none=>exact (show False from r).elim
    | some _=>exact r
theorem KV.val {kvs:List (κ × V)} {vs:List (κ × Value)} (r:KV kvs vs) (k:κ):RelO (valV kvs k) (valueAt vs k):=by
  unfold KV at r
  induction r with
  | nil=>exact True.intro
  | @cons p q ps qs h t ih =>
    obtain ⟨h1,h2⟩:=h
    by_cases e:p.1=k
    · have e':q.1=k:=h1.symm.trans e
      have b:valueAt (q :: qs) k=some q.2:=by simp [valueAt,List.find?_cons,e']
      rw [valV_pos e,b]; exact h2
    · have e':¬ q.1=k:=fun z=>e (h1.trans z)
      have b:valueAt (q :: qs) k=valueAt qs k:=by simp [valueAt,List.find?_cons,e']
      rw [valV_neg e,b]; exact ih
theorem KV.any {kvs:List (κ × V)} {vs:List (κ × Value)} (r:KV kvs vs) (k:κ):(kvs.any fun kv=>decide (kv.1=k))=vs.any fun kv=>decide (kv.1=k):=by
  unfold KV at r
  induction r with
  | nil=>rfl
  | cons h t ih=>rw [List.any_cons,List.any_cons,ih,h.1]
theorem KV.repl {kvs:List (κ × V)} {vs:List (κ × Value)} (r:KV kvs vs) (k:κ) {y:V} {u:Value} (ry:RelV y u) :
    KV (kvs.map fun kv=>if kv.1=k then (kv.1,y) else kv) (vs.map fun kv=>if kv.1=k then (kv.1,u) else kv):=by
  unfold KV at r ⊢
  induction r with
  | nil=>exact .nil
  | @cons p q ps qs h t ih =>
    rw [List.map_cons,List.map_cons]
    refine .cons ?_ ih
    obtain ⟨h1,h2⟩:=h
    by_cases e:p.1=k
    · rw [if_pos e,if_pos (h1.symm.trans e)]; exact ⟨h1,ry⟩
    · rw [if_neg e,if_neg (fun z=>e (h1.trans z))]; exact ⟨h1,h2⟩
theorem KV.put {kvs:List (κ × V)} {vs:List (κ × Value)} (r:KV kvs vs) (k:κ) {y:V} {u:Value} (ry:RelV y u):KV (putK kvs k y) (stored vs k u):=by
  unfold putK stored
  rw [r.any k]
  by_cases e:(vs.any fun kv=>decide (kv.1=k))=true
  · rw [if_pos e,if_pos e]; exact r.repl k ry
  · rw [if_neg e,if_neg e]; exact Paired.snoc r ⟨rfl,ry⟩
theorem KV.drop {kvs:List (κ × V)} {vs:List (κ × Value)} (r:KV kvs vs) (k:κ):KV (dropK kvs k) (without vs k):=by
  unfold KV at r ⊢
  unfold dropK without
  induction r with
  | nil=>exact .nil
  | @cons p q ps qs h t ih =>
    obtain ⟨h1,h2⟩:=h
    rw [List.filter_cons,List.filter_cons]
    by_cases e:p.1=k
    · have a:¬ decide (p.1≠k)=true:=by simp [e]
      have b:¬ decide (q.1≠k)=true:=by simp [h1.symm.trans e]
      rw [if_neg a,if_neg b]; exact ih
    · have e':¬ q.1=k:=fun z=>e (h1.trans z)
      have a:decide (p.1≠k)=true:=by simp [e]
      have b:decide (q.1≠k)=true:=by simp [e']
      rw [if_pos a,if_pos b]; exact .cons ⟨h1,h2⟩ ih
theorem KV.keys {kvs:List (κ × V)} {vs:List (κ × Value)} (r:KV kvs vs):kvs.map (·.1)=vs.map (·.1):=by
  unfold KV at r
  induction r with
  | nil=>rfl
  | cons h t ih=>rw [List.map_cons,List.map_cons,ih,h.1]
theorem KV.length {kvs:List (κ × V)} {vs:List (κ × Value)} (r:KV kvs vs):kvs.length=vs.length:=Paired.length r
theorem dropK_le (kvs:List (κ × V)) (k:κ):(dropK kvs k).length≤kvs.length:=List.length_filter_le _ _
end
theorem kV_is {P:Program} {w:World} {k:Key} {u:Value} (r:RelV (kV k) u):(mixKind P w).is k u=true:=by
  cases k with
  | inl i=>obtain ⟨t,e⟩:=(show ∃ t,u=Value.int i t from r); subst e; exact mixKind_int P w i t
  | inr x=>obtain ⟨t,e⟩:=(show ∃ t,u=Value.str x t from r); subst e; exact mixKind_str P w x t
theorem items_are {P:Program} {w:World}:∀ {ks:List Key} {us:List Value},Vals (ks.map kV) us→ItemsAre (mixKind P w) ks us
  | [],_,r=>by rw [List.map_nil] at r; cases r; exact .nil
  | k :: ks,_,r=>by
    rw [List.map_cons] at r
    cases r with
    | cons h t=>exact .cons (kV_is h) (items_are t)
abbrev KT (H:Hp):List (List Key × V)→List (List Key × Addr × Value)→Prop:=Paired fun p q=>p.1=q.1∧H q.2.1=some (.tup (p.1.map kV))∧RelV p.2 q.2.2
theorem KT.val {H:Hp} {kvs:List (List Key × V)} {xs:List (List Key × Addr × Value)} (r:KT H kvs xs) (k:List Key):RelO (valV kvs k) ((atKey xs k).map (·.2)):=by
  induction r with
  | nil=>exact True.intro
  | @cons p q ps qs h t ih =>
    obtain ⟨h1,_,h2⟩:=h
    by_cases e:p.1=k
    · have e':q.1=k:=h1.symm.trans e
      have b:atKey (q :: qs) k=some q.2:=by simp [atKey,List.find?_cons,e']
      rw [valV_pos e,b]; exact h2
    · have e':¬ q.1=k:=fun z=>e (h1.trans z)
      have b:atKey (q :: qs) k=atKey qs k:=by simp [atKey,List.find?_cons,e']
      rw [valV_neg e,b]; exact ih
theorem KT.repl {H:Hp} {kvs:List (List Key × V)} {xs:List (List Key × Addr × Value)} (r:KT H kvs xs) (k:List Key) {y:V} {u:Value} (ry:RelV y u) :
    KT H (kvs.map fun kv=>if kv.1=k then (kv.1,y) else kv) (xs.map (putAt k u)):=by
  induction r with
  | nil=>exact .nil
  | @cons p q ps qs h t ih =>
    rw [List.map_cons,List.map_cons]
    refine .cons ?_ ih
    obtain ⟨h1,h2,h3⟩:=h
    unfold putAt
    by_cases e:p.1=k
    · rw [if_pos e,if_pos (h1.symm.trans e)]; exact ⟨h1,h2,ry⟩
    · rw [if_neg e,if_neg (fun z=>e (h1.trans z))]; exact ⟨h1,h2,h3⟩
theorem KT.put {H:Hp} {kvs:List (List Key × V)} {xs:List (List Key × Addr × Value)} (r:KT H kvs xs) (k:List Key) {b:Addr} {y:V} {u:Value} (hb:H b=some (.tup (k.map kV))) (ry:RelV y u) :
    KT H (putK kvs k y) (storedH xs k b u):=by
  have e:(kvs.any fun kv=>decide (kv.1=k))=(atKey xs k).isSome:=by
    rw [valV_any,(r.val k).isSome_eq,Option.isSome_map]
  unfold putK storedH
  rw [e]
  by_cases q:(atKey xs k).isSome=true
  · rw [if_pos q,if_pos q]; exact r.repl k ry
  · rw [if_neg q,if_neg q]; exact Paired.snoc r ⟨rfl,hb,ry⟩
theorem KT.keeps {H H':Hp} {kvs:List (List Key × V)} {xs:List (List Key × Addr × Value)} (r:KT H kvs xs) (ht:∀ b ys,H b=some (.tup ys)→H' b=some (.tup ys)):KT H' kvs xs :=
  Paired.mapP r fun _ _ z=>⟨z.1,ht _ _ z.2.1,z.2.2⟩
section
variable {P : Program} {w : World} {H : Hp} {h : Heap} {a : Addr}
theorem rd_of {u:HO} (ok:HOk P w H h) (e:Rd H a u):ObjOk P w H h a u:=e.ok ok
theorem dk_rd {kvs:List (Key × V)} (ok:HOk P w H h) (e:Rd H a (.dK kvs)):kvs.length≤sizeLine∧(a == sysModules)=false∧∃ vs,KV kvs vs∧h.DictOf (mixKind P w) a vs :=
  show ObjOk P w H h a (.dK kvs) from rd_of ok e
theorem dk_of {kvs:List (Key × V)} (ok:HOk P w H h) (e:H a=some (.dK kvs)):kvs.length≤sizeLine∧(a == sysModules)=false∧∃ vs,KV kvs vs∧h.DictOf (mixKind P w) a vs:=dk_rd ok (.inl e)
theorem key_of {ks:List Key} (ok:HOk P w H h) (e:H a=some (.tup (ks.map kV))):(tupleKind (mixKind P w)).is h ks a:=by
  obtain ⟨_,its,r,o,h1,h2,n,h3⟩:=(show ObjOk P w H h a (.tup (ks.map kV)) from ok a _ e)
  exact ⟨o,its.toArray,n,h1,h2,h3,by simpa using items_are r⟩
theorem dt_rd {kvs:List (List Key × V)} (ok:HOk P w H h) (e:Rd H a (.dT kvs)):kvs.length≤sizeLine∧(a == sysModules)=false ∧
    ∃ xs,KT H kvs xs∧h.DictOfH (tupleKind (mixKind P w)) a xs:=by
  obtain ⟨z,y,xs,r,o,es,ep,h1,h2,h3,h4,h5⟩:=(show ObjOk P w H h a (.dT kvs) from rd_of ok e)
  refine ⟨z,y,xs,r,o,es,ep,h1,h2,h3,h4,fun x hx=>?_,h5⟩
  have all:∀ {l:List (List Key × V)} {m:List (List Key × Addr × Value)},KT H l m→∀ x∈m,(tupleKind (mixKind P w)).is h x.1 x.2.1:=by
    intro l m q
    induction q with
    | nil=>intro x hx; exact nomatch hx
    | @cons p q ps qs hq t ih =>
      intro x hx
      rcases List.mem_cons.mp hx with e | hx
      · subst e
        exact key_of ok (by rw [← hq.1]; exact hq.2.1)
      · exact ih x hx
  exact all r x hx
theorem dt_of {kvs:List (List Key × V)} (ok:HOk P w H h) (e:H a=some (.dT kvs)):kvs.length≤sizeLine∧(a == sysModules)=false ∧
    ∃ xs,KT H kvs xs∧h.DictOfH (tupleKind (mixKind P w)) a xs:=dt_rd ok (.inl e)
end
def DGet (H:Hp) (a:Addr) (y:V) (r:Option V):Prop :=
  (∃ kvs k,Rd H a (.dK kvs)∧y=kV k∧r=valV kvs k)∨∃ kvs k b,Rd H a (.dT kvs)∧y=.ref b∧H b=some (.tup (k.map kV))∧r=valV kvs k
def DPut (H:Hp) (a:Addr) (y v:V) (H':Hp):Prop :=
  (∃ kvs k,H a=some (.dK kvs)∧y=kV k∧kvs.length < sizeLine∧H'=upd H a (.dK (putK kvs k v))) ∨
  ∃ kvs k b,H a=some (.dT kvs)∧y=.ref b∧H b=some (.tup (k.map kV))∧kvs.length < sizeLine∧H'=upd H a (.dT (putK kvs k v))
theorem DGet.k {H:Hp} {a:Addr} {kvs:List (Key × V)} {k:Key} (e:H a=some (.dK kvs)):DGet H a (kV k) (valV kvs k):=.inl ⟨kvs,k,.inl e,rfl,rfl⟩
theorem DGet.t {H:Hp} {a b:Addr} {kvs:List (List Key × V)} {k:List Key} (e:H a=some (.dT kvs)) (eb:H b=some (.tup (k.map kV))):DGet H a (.ref b) (valV kvs k):=.inr ⟨kvs,k,b,.inl e,rfl,eb,rfl⟩
theorem DPut.k {H:Hp} {a:Addr} {kvs:List (Key × V)} {k:Key} {v:V} (e:H a=some (.dK kvs)) (hl:kvs.length < sizeLine):DPut H a (kV k) v (upd H a (.dK (putK kvs k v))):=.inl ⟨kvs,k,e,rfl,hl,rfl⟩
theorem DPut.t {H:Hp} {a b:Addr} {kvs:List (List Key × V)} {k:List Key} {v:V} (e:H a=some (.dT kvs)) (eb:H b=some (.tup (k.map kV))) (hl:kvs.length < sizeLine) :
    DPut H a (.ref b) v (upd H a (.dT (putK kvs k v))):=.inr ⟨kvs,k,b,e,rfl,eb,hl,rfl⟩
section
variable {X : Cx} {pins : List (Addr × Obj)} {σ : St} {H : Hp} {s : Shared} {a : Addr} {y v : V} {u r : Value} {o : Option V} {A : Around} {E : Value → Shared → Prop}
theorem Inv.big (I:Inv X pins σ H s):sysModules < s.heap.objs.size:=by
  have h:mainGlobals < s.heap.objs.size:=(I.mod.glob.keeps I.bk).lt
  exact Nat.lt_trans (by decide) h
theorem d_getItem {Q:Value→Shared→Prop} (hu:A.units + 1 < cLine) (I:Inv X pins σ H s) (g:DGet H a y (some v)) (ry:RelV y u) (h:∀ w' s',Inv X pins σ H s'→RelV v w'→Q w' s') :
    wpAny (model X.prog X.w) A (getItem (.ref a) u) Q E s:=by
  rcases g with ⟨kvs,k,e,ey,l⟩ | ⟨kvs,k,b,e,ey,eb,l⟩
  · subst ey
    obtain ⟨z,hd,vs,rel,dd⟩:=dk_rd I.hok e
    obtain ⟨w',hw,rw'⟩:=RelO.some_of (v:=v) (o:=valueAt vs k) (by rw [l]; exact rel.val k)
    exact wpAny_getItem_of (kV_is ry) dd.mapOf hw (h w' _ (I.tok _) rw')
  · subst ey
    cases (show u=Value.ref b from ry)
    obtain ⟨z,hd,xs,rel,dd⟩:=dt_rd I.hok e
    obtain ⟨w',hw,rw'⟩:=RelO.some_of (v:=v) (o:=(atKey xs k).map (·.2)) (by rw [l]; exact rel.val k)
    obtain ⟨p,hp,hp2⟩:=Option.map_eq_some_iff.mp hw
    refine wpAny_getItem_heap (tupleKind_room_in1 hu) (key_of I.hok eb) dd hp ?_
    rw [hp2]
    exact h w' _ (I.tok _) rw'
theorem d_notIn {Q:Value→Shared→Prop} (hu:A.units + 1 < cLine) (I:Inv X pins σ H s) (g:DGet H a y o) (ry:RelV y u) (h:∀ s',Inv X pins σ H s'→Q (.bool (!o.isSome)) s') :
    wpAny (model X.prog X.w) A (compareOp .NotIn u (.ref a)) Q E s:=by
  rcases g with ⟨kvs,k,e,ey,l⟩ | ⟨kvs,k,b,e,ey,eb,l⟩
  · subst ey
    obtain ⟨z,hd,vs,rel,dd⟩:=dk_rd I.hok e
    refine wpAny_notIn_of (kV_is ry) hd dd.mapOf ?_
    rw [← (rel.val k).isSome_eq,← l]
    exact h _ (I.tok _)
  · subst ey
    cases (show u=Value.ref b from ry)
    obtain ⟨z,hd,xs,rel,dd⟩:=dt_rd I.hok e
    refine wpAny_notIn_heap (tupleKind_room_in1 hu) (key_of I.hok eb) hd dd ?_
    have q:=(rel.val k).isSome_eq
    rw [Option.isSome_map] at q
    rw [← q,← l]
    exact h _ (I.tok _)
theorem d_write {h':Heap} {t':Nat} {ob:HO} (I:Inv X pins σ H s) (mu:Mut (H a)) (hs:Heap.SameBut a s.heap h') (he:∃ q,h'.get? a=some q) (new:ObjOk X.prog X.w (upd H a ob) h' a ob) :
    Inv X pins σ (upd H a ob) { s with heap:=h',toks:=t' } :=
  I.write (x:=a) (e:=a) mu (.inl rfl) (fun b q hb z=>(hs.2 b hb).trans z) he new
theorem dk_new {P:Program} {w:World} {H':Hp} {h':Heap} {kvs:List (Key × V)} {vs:List (Key × Value)} (z:kvs.length≤sizeLine) (hd:(a == sysModules)=false) (rel:KV kvs vs) (dd:h'.DictOf (mixKind P w) a vs) :
    ObjOk P w H' h' a (.dK kvs):=⟨z,hd,vs,rel,dd⟩
theorem d_setItem {H':Hp} {Q:Unit→Shared→Prop} (hu:A.units + 1 < cLine) (I:Inv X pins σ H s) (g:DPut H a y v H') (ry:RelV y u) (rv:RelV v r) (h:∀ s',Inv X pins σ H' s'→Q () s') :
    wpAny (model X.prog X.w) A (setItem (.ref a) u r) Q E s:=by
  rcases g with ⟨kvs,k,e,ey,l,eH⟩ | ⟨kvs,k,b,e,ey,eb,l,eH⟩
  · subst ey eH
    obtain ⟨z,hd,vs,rel,dd⟩:=dk_of I.hok e
    have hz:vs.length≤sizeLine:=by rw [← rel.length]; exact z
    have hl:(putK kvs k v).length≤sizeLine:=by have:=length_putK kvs k v; omega
    refine wpAny_setItem_pairs (hsz:=hz) (kV_is ry) dd fun h' dd' hs=>h _ ?_
    have he:∃ q,h'.get? a=some q:=let ⟨q,_,_,hq,_⟩:=dd'; ⟨q,hq⟩
    exact d_write I (by rw [e]; exact True.intro) hs he (dk_new hl hd (rel.put k rv) dd')
  · subst ey eH
    cases (show u=Value.ref b from ry)
    obtain ⟨z,hd,xs,rel,dd⟩:=dt_of I.hok e
    have hz:xs.length≤sizeLine:=by rw [← Paired.length rel]; exact z
    have hl:(putK kvs k v).length≤sizeLine:=by have:=length_putK kvs k v; omega
    refine wpAny_setItem_heap (hsz:=hz) (tupleKind_room_in1 hu) (key_of I.hok eb) dd fun h' dd' hs=>h _ ?_
    obtain ⟨q,es,ep,hq,h2,h3,h4,_,h5⟩:=dd'
    refine d_write I (by rw [e]; exact True.intro) hs ⟨q,hq⟩ ⟨hl,hd,_,(rel.put k eb rv).keeps fun c ys ec=>?_,q,es,ep,hq,h2,h3,h4,h5⟩
    rw [upd_ne (ne_of ec e (fun z=>nomatch z))]
    exact ec
end
section
variable {X : Cx} {pins : List (Addr × Obj)} {σ : St} {H : Hp} {s : Shared} {a : Addr} {kvs : List (Key × V)} {k : Key} {u : Value} {A : Around} {E : Value → Shared → Prop}
theorem d_pop {v:V} {more:List Value} {Q:Value→Shared→Prop} (I:Inv X pins σ H s) (e:H a=some (.dK kvs)) (ry:RelV (kV k) u) (l:valV kvs k=some v) (hm:more=[]∨∃ x,more=[x])
    (h:∀ w' s',Inv X pins σ (upd H a (.dK (dropK kvs k))) s'→RelV v w'→Q w' s'):wpAny (model X.prog X.w) A (call (.builtin "dict.pop") (.ref a :: u :: more)) Q E s:=by
  obtain ⟨z,hd,vs,rel,dd⟩:=dk_of I.hok e
  obtain ⟨w',hw,rw'⟩:=RelO.some_of (v:=v) (o:=valueAt vs k) (by rw [← l]; exact rel.val k)
  have hp:(keyPart u).isSome=true:=by
    cases k with
    | inl i=>obtain ⟨t,q⟩:=(show ∃ t,u=Value.int i t from ry); subst q; rfl
    | inr x=>obtain ⟨t,q⟩:=(show ∃ t,u=Value.str x t from ry); subst q; rfl
  have ha:argsOk "dict.pop" ⟨.ref a :: u :: more,[]⟩:=by
    rcases hm with q | ⟨x,q⟩
    · subst q; exact PySem.F.args_dict_pop_2 _ _
    · subst q; exact PySem.F.args_dict_pop_3 _ _ _
  refine call_meetsIn PySem.F.slot_dict_pop dd.typeIs PySem.F.entry_dict_pop ha (meets_dict_pop_there (mixKind X.prog X.w) a (kV_is ry) more hm hp)
    ⟨vs,w',dd,by rw [← rel.length]; exact z,hw,fun h' dd' hs=>h w' _ ?_ rw'⟩
  have he:∃ q,h'.get? a=some q:=let ⟨q,_,_,hq,_⟩:=dd'; ⟨q,hq⟩
  exact d_write I (by rw [e]; exact True.intro) hs he (dk_new (Nat.le_trans (dropK_le kvs k) z) hd (rel.drop k) dd')
theorem d_len {Q:Value→Shared→Prop} (I:Inv X pins σ H s) (e:Rd H a (.dK kvs)) (h:∀ t s',Inv X pins σ H s'→Q (.int kvs.length t) s'):wpAny (model X.prog X.w) A (call (.builtin "len") [.ref a]) Q E s:=by
  obtain ⟨z,hd,vs,rel,dd⟩:=dk_rd I.hok e
  refine call_len_dict hd dd (by rw [← rel.length]; rw [sizeLine_eq] at z; omega) ?_
  rw [← rel.length]
  exact h _ _ (I.tok _)
end
def NoSl (i:Expr):Prop:=∀ ov iv,subscripted i false ov iv=operate [ov,iv] (getItem ov iv)
theorem subD_of {prog:Program} {w:World} {A:Around} {E:Value→Shared→Prop} {s:Shared} {env:Env} {value slice:Expr} {pos:Pos} {T id:String} {Q:Value→Shared→Prop}
    (hl:typeLookup (.type T) "__getitem__"=pure (some (.builtin id))) (hs:NoSl slice)
    (h:wpAny (model prog w) A (eval value env) (fun o s₁=>wpAny (model prog w) A (eval slice env) (fun i s₂=>s₂.TypeIs o T∧wpAny (model prog w) A (getItem o i) Q E s₂) E s₁) E s) :
    wpAny (model prog w) A (eval (.Subscript value slice pos) env) Q E s:=by
  refine Subscript_ (wpAny_mono h (fun o s₁ h₁=>wpAny_mono h₁ (fun i s₂ h₂=>?_) fun _ _ x=>x) fun _ _ x=>x)
  obtain ⟨hT,h₂⟩:=h₂
  unfold subscriptTail
  refine wpAny_bind ?_
  rw [getitemInPython_of_ne hT.not_modules]
  refine wpAny_bind (wpAny_specialOf hT hl ?_)
  have fin:wpAny (model prog w) A (subscripted slice false o i) (fun r s₃=>wpAny (model prog w) A (letTemporaryGo value o r >>= fun _=>pure r) Q E s₃) E s₂:=by
    rw [hs o i]
    exact wpAny_operating (wpAny_mono h₂ (fun r s₃ h₃=>wpAny_bind (wpAny_letTemporaryGo (wpAny_pure h₃))) fun _ _ x=>x)
  first
    | exact wpAny_pure (wpAny_bind fin)
    | exact wpAny_bind (wpAny_pure (wpAny_bind fin))
    | exact wpAny_bind fin
theorem dict_typeIs {X:Cx} {pins:List (Addr × Obj)} {σ:St} {H:Hp} {s:Shared} {a:Addr} {y:V} {o:Option V} (I:Inv X pins σ H s) (g:DGet H a y o):s.TypeIs (.ref a) "dict":=by
  rcases g with ⟨kvs,k,e,_,_⟩ | ⟨kvs,k,b,e,_,_,_⟩
  · obtain ⟨_,_,vs,_,dd⟩:=dk_rd I.hok e
    exact dd.typeIs
  · obtain ⟨_,_,xs,_,dd⟩:=dt_rd I.hok e
    exact dd.typeIs
def tDGet (td ty:TE):TE:=fun σ H Q=>td σ H fun x H1=>ty σ H1 fun y H2=>∃ a v,x=.ref a∧DGet H2 a y (some v)∧Q v H2
def tDNotIn (ty td:TE):TE:=fun σ H Q=>ty σ H fun y H1=>td σ H1 fun x H2=>∃ a o,x=.ref a∧DGet H2 a y o∧Q (.bl (!o.isSome)) H2
def sDPut (td ty tv:TE):TS:=fun D σ H=>tv σ H fun v H1=>td σ H1 fun x H2=>ty σ H2 fun y H3=>∃ a H4,x=.ref a∧DPut H3 a y v H4∧D.nx σ H4
section
variable {X : Cx} {o i e value : Expr} {pos pos' tpos : Pos} {td ty tv : TE}
theorem pe_dget (hu:X.A.units + 1 < cLine) (ho:PE X o td) (hi:PE X i ty) (hs:NoSl i):PE X (.Subscript o i pos) (tDGet td ty):=by
  intro pins s σ H Q I h
  refine subD_of PySem.F.slot_dict_getitem.lookup hs (thn (ho pins s σ H _ I h) fun u s1 ⟨x,H1,I1,rx,q1⟩=>thn (hi pins s1 σ H1 _ I1 q1) fun iv s2 ⟨y,H2,I2,ry,a,v,ex,g,q2⟩=>?_)
  subst ex
  obtain rfl:u=Value.ref a:=rx
  exact ⟨dict_typeIs I2 g,d_getItem hu I2 g ry fun w' s3 I3 rw'=>⟨v,H2,I3,rw',q2⟩⟩
theorem pc_dnotin (hu:X.A.units + 1 < cLine) (hi:PE X i ty) (ho:PE X o td):PC X .NotIn i o (tDNotIn ty td):=by
  intro pins s σ H Q I h
  refine thn (hi pins s σ H _ I h) fun iv s1 ⟨y,H1,I1,ry,q1⟩=>thn (ho pins s1 σ H1 _ I1 q1) fun u s2 ⟨x,H2,I2,rx,a,ov,ex,g,q2⟩=>?_
  subst ex
  obtain rfl:u=Value.ref a:=rx
  exact d_notIn hu I2 g ry fun s3 I3=>⟨.bl (!ov.isSome),H2,I3,rfl,q2⟩
theorem ps_dput (hu:X.A.units + 1 < cLine) (ho:PE X o td) (hi:PE X i ty) (hv:PE X value tv) (hs:swapsWith value (some (.Subscript o i pos')) pos.line X.env=pure false) :
    PS X (.Assign [.Subscript o i pos'] value pos) (sDPut td ty tv):=by
  intro pins s σ H D I h
  refine wpAny_Assign_Subscript (thn (hv pins s σ H _ I h) fun r s1 ⟨v,H1,I1,rv,q1⟩=>thn (ho pins s1 σ H1 _ I1 q1) fun u s2 ⟨x,H2,I2,rx,q2⟩=>thn (hi pins s2 σ H2 _ I2 q2) fun iv s3 ⟨y,H3,I3,ry,a,H4,ex,g,q3⟩=>?_) hs
  subst ex
  obtain rfl:u=Value.ref a:=rx
  exact d_setItem hu I3 g ry rv fun s4 I4=>⟨σ,H4,I4,q3⟩
end
theorem dk_empty {P:Program} {w:World} {H:Hp} (h:Heap) (hb:sysModules < h.objs.size):ObjOk P w H (h.push { cls:=.type "dict",data:=.dict #[] }) h.objs.size (.dK []) :=
  ⟨Nat.zero_le _,beq_eq_false_iff_ne.mpr (Ne.symm (Nat.ne_of_lt hb)),[],.nil,Heap.DictOf.new h⟩
def tDNewK:TE:=fun _ H Q=>∀ p,H p=none→Q (.ref p) (upd H p (.dK []))
section
variable {X : Cx} {pos : Pos}
theorem pe_dnewK:PE X (.Dict [] [] pos) tDNewK:=fun pins s σ H Q I h =>
  wpAny_Dict_empty ⟨.ref s.heap.objs.size,_,I.laid (a:=s.heap.objs.size) (o:=.dK []) (t':=s.toks) (fun _ _ q=>Heap.get?_push_of_some _ q) (Nat.le_refl _) (dk_empty s.heap I.big),rfl,h _ (I.hok.fresh (Nat.le_refl _))⟩
end
def tPairs:List (TE × TE)→St→Hp→(List (V × V)→Hp→Prop)→Prop
  | [],_,H,Q=>Q [] H
  | (tk,tv) :: r,σ,H,Q=>tk σ H fun x H1=>tv σ H1 fun y H2=>tPairs r σ H2 fun ps H3=>Q ((x,y) :: ps) H3
abbrev VV:List (V × V)→List (Value × Value)→Prop:=Paired fun p q=>RelV p.1 q.1∧RelV p.2 q.2
def PPs (X:Cx) (pos:Pos) (keys:List (Option Expr)) (values:List Expr) (trs:List (TE × TE)):Prop :=
  ∀ (pins:List (Addr × Obj)) (s:Shared) (σ:St) (H:Hp) (Q:List (V × V)→Hp→Prop),Inv X pins σ H s→tPairs trs σ H Q →
    wpAny (model X.prog X.w) X.A (evalPairs (pairTrees keys values X.env pos)) (fun vs s'=>∃ ps H',Inv X pins σ H' s'∧VV ps vs∧Q ps H') X.xe s
theorem pps_nil {X:Cx} {pos:Pos}:PPs X pos [] [] []:=fun pins s σ H Q I h=>pairTrees_nil_walk ⟨[],H,I,.nil,h⟩
theorem pps_cons {X:Cx} {pos:Pos} {k v:Expr} {ks:List (Option Expr)} {vs:List Expr} {tk tv:TE} {trs:List (TE × TE)} (hk:PE X k tk) (hv:PE X v tv) (hr:PPs X pos ks vs trs) :
    PPs X pos (some k :: ks) (v :: vs) ((tk,tv) :: trs):=fun pins s σ H Q I h =>
  pairTrees_cons_walk (thn (hk pins s σ H _ I h) fun u s1 ⟨x,H1,I1,rx,q1⟩=>thn (hv pins s1 σ H1 _ I1 q1) fun w2 s2 ⟨y,H2,I2,ry,q2⟩ =>
    thn (hr pins s2 σ H2 _ I2 q2) fun ws s3 ⟨ps,H3,I3,rel,q3⟩=>⟨(x,y) :: ps,H3,I3,.cons ⟨rx,ry⟩ rel,q3⟩)
def mergeK (kvs more:List (Key × V)):List (Key × V):=more.foldl (fun acc kv=>putK acc kv.1 kv.2) kvs
theorem KV.merge:∀ {more:List (Key × V)} {rs:List (Key × Value)} {kvs:List (Key × V)} {vs:List (Key × Value)},KV more rs→KV kvs vs→KV (mergeK kvs more) (merged vs rs):=by
  intro more rs kvs vs r
  unfold KV at r
  induction r generalizing kvs vs with
  | nil=>intro q; exact q
  | @cons p q ps qs h t ih =>
    intro r0
    have e:KV (putK kvs p.1 p.2) (stored vs q.1 q.2):=by
      have:=r0.put p.1 h.2
      rw [← h.1]; exact this
    exact ih e
theorem length_mergeK:∀ (more kvs:List (Key × V)),(mergeK kvs more).length≤kvs.length + more.length
  | [],kvs=>by show kvs.length≤kvs.length + 0; omega
  | p :: r,kvs=>by
    have h1:=length_mergeK r (putK kvs p.1 p.2)
    have h2:=length_putK kvs p.1 p.2
    show (mergeK (putK kvs p.1 p.2) r).length≤_
    rw [List.length_cons]; omega
theorem carries_of {P:Program} {w:World}:∀ {kvs:List (Key × V)} {ws:List (Value × Value)},VV (kvs.map fun kv=>(kV kv.1,kv.2)) ws→∃ rs,Carries (mixKind P w) ws rs∧KV kvs rs
  | [],_,r=>by rw [List.map_nil] at r; cases r; exact ⟨[],True.intro,.nil⟩
  | p :: kvs,_,r=>by
    rw [List.map_cons] at r
    cases r with
    | @cons a b as bs h t =>
      obtain ⟨rs,c,q⟩:=carries_of (P:=P) (w:=w) t
      obtain ⟨b1,b2⟩:=b
      exact ⟨(p.1,b2) :: rs,⟨kV_is h.1,rfl,c⟩,.cons ⟨rfl,h.2⟩ q⟩
def tDisp (trs:List (TE × TE)):TE:=fun σ H Q=>∀ p,H p=none→tPairs trs σ (upd H p (.dK [])) fun ps H2=>H2 p=some (.dK [])∧∃ kvs:List (Key × V),ps=kvs.map (fun kv=>(kV kv.1,kv.2))∧kvs.length≤15∧Q (.ref p) (upd H2 p (.dK (mergeK [] kvs)))
theorem pe_disp {X:Cx} {pos:Pos} {keys:List (Option Expr)} {values:List Expr} {trs:List (TE × TE)} (h:PPs X pos keys values trs) (hall:keys.all (·.isSome)=true) (hl:keys.length=values.length) (h0:keys≠[])
    (h15:keys.length≤15):PE X (.Dict keys values pos) (tDisp trs):=by
  intro pins s σ H Q I q
  have hn:=I.hok.fresh (Nat.le_refl s.heap.objs.size)
  have I1:=I.laid (a:=s.heap.objs.size) (o:=.dK []) (h':=s.heap.push { cls:=.type "dict",data:=.dict #[] }) (t':=s.toks) (fun _ _ q=>Heap.get?_push_of_some _ q) (Nat.le_refl _) (dk_empty s.heap I.big)
  refine wpAny_Dict_walk (knd:=mixKind X.prog X.w) hall hl h0 h15 (thn (h pins _ σ _ _ I1 (q _ hn)) fun ws s2 ⟨ps,H2,I2,rel,e,kvs,ep,lk,q2⟩=>?_)
  subst ep
  obtain ⟨rs,c,rk⟩:=carries_of (P:=X.prog) (w:=X.w) rel
  obtain ⟨z,hd,vs0,r0,dd⟩:=dk_of I2.hok e
  cases r0
  refine ⟨rs,c,dd,fun h' dd' hs=>⟨.ref s.heap.objs.size,_,?_,rfl,q2⟩⟩
  have hz:(mergeK [] kvs).length≤sizeLine:=by
    have h1:=length_mergeK kvs []
    rw [List.length_nil] at h1
    rw [sizeLine_eq]; omega
  have he:∃ q,h'.get? s.heap.objs.size=some q:=let ⟨q,_,_,hq,_⟩:=dd'; ⟨q,hq⟩
  exact d_write I2 (by rw [e]; exact True.intro) hs he (dk_new hz hd (rk.merge .nil) dd')
structure M1 (X:Cx) (o:Expr) (m:Str) (apos:Pos) (e:Expr) (cpos:Pos):Prop where
  base:attributeBase o m X.env (eval o X.env)=eval o X.env
  few:((backTo cpos (starEach [e] X.env)).all (fun x=>!x.1) && (backToKw cpos (keywordEach [] X.env)).all (fun x=>x.1.isSome)
    && decide (([e]:List Expr).length + ([]:List Keyword).length + (if ([]:List Keyword).isEmpty then 0 else 1) < 30))=true
  line:(apos.endLine == cpos.line)=true
  trees:backTo cpos (starEach [e] X.env)=[(false,eval e X.env)]
structure M2 (X:Cx) (o:Expr) (m:Str) (apos:Pos) (e f:Expr) (cpos:Pos):Prop where
  base:attributeBase o m X.env (eval o X.env)=eval o X.env
  few:((backTo cpos (starEach [e,f] X.env)).all (fun x=>!x.1) && (backToKw cpos (keywordEach [] X.env)).all (fun x=>x.1.isSome)
    && decide (([e,f]:List Expr).length + ([]:List Keyword).length + (if ([]:List Keyword).isEmpty then 0 else 1) < 30))=true
  line:(apos.endLine == cpos.line)=true
  trees:backTo cpos (starEach [e,f] X.env)=[(false,eval e X.env),(false,eval f X.env)]
def IsD (H:Hp) (a:Addr):Prop:=(∃ kvs,Rd H a (.dK kvs))∨∃ kvs,Rd H a (.dT kvs)
theorem isD_at {X:Cx} {pins:List (Addr × Obj)} {σ:St} {H:Hp} {s:Shared} {a:Addr} (I:Inv X pins σ H s) (d:IsD H a) :
    s.TypeIs (.ref a) "dict"∧(∀ b,Value.ref a=.ref b→∃ ob,s.heap.get? b=some ob∧ob.dict=none)∧(a == sysModules)=false:=by
  rcases d with ⟨kvs,e⟩ | ⟨kvs,e⟩
  · obtain ⟨_,hd,vs,_,dd⟩:=dk_rd I.hok e
    refine ⟨dd.typeIs,fun b q=>?_,hd⟩
    cases q
    obtain ⟨ob,_,_,h1,h2,_⟩:=dd
    exact ⟨ob,h1,h2.2.1⟩
  · obtain ⟨_,hd,xs,_,dd⟩:=dt_rd I.hok e
    refine ⟨dd.typeIs,fun b q=>?_,hd⟩
    cases q
    obtain ⟨ob,_,_,h1,h2,_⟩:=dd
    exact ⟨ob,h1,h2.2.1⟩
section
variable {X : Cx} {pins : List (Addr × Obj)} {σ : St} {H : Hp} {s : Shared} {a : Addr} {y d : V} {u r : Value} {o : Option V} {A : Around} {E : Value → Shared → Prop}
end
def tDPop1 (td ty:TE):TE:=fun σ H Q=>td σ H fun x H1=>∃ a,x=.ref a∧IsD H1 a∧ty σ H1 fun y H2=>∃ kvs k v,H2 a=some (.dK kvs)∧y=kV k∧valV kvs k=some v∧Q v (upd H2 a (.dK (dropK kvs k)))
section
variable {X : Cx} {o e f : Expr} {apos cpos : Pos} {td ty tx : TE}
theorem pe_dpop1 (ho:PE X o td) (he:PE X e ty) (m:M1 X o "pop" apos e cpos):PE X (.Call (.Attribute o "pop" apos) [e] [] cpos) (tDPop1 td ty):=by
  intro pins s σ H Q I h
  refine wpAny_Call_method m.base m.few m.line PySem.F.plainAttrs_dict PySem.F.slot_dict_pop PySem.F.type_dict_pop (thn (ho pins s σ H _ I h) fun u s1 ⟨x,H1,I1,rx,a,ex,d,q1⟩=>?_)
  subst ex
  obtain rfl:u=Value.ref a:=rx
  obtain ⟨t1,t2,_⟩:=isD_at I1 d
  refine ⟨t1,t2,?_⟩
  rw [m.trees]
  refine Calls.callWith_builtin rfl (Calls.evalArgs_plain (Calls.spliced_cons (thn (he pins s1 σ H1 _ I1 q1) fun iv s2 ⟨y,H2,I2,ry,kvs,k,v,ea,ey,l,q2⟩=>Calls.spliced_nil ?_)))
  subst ey
  exact d_pop I2 ea ry l (.inl rfl) fun w' s3 I3 rw'=>⟨v,_,I3,rw',q2⟩
end
section
variable {X : Cx} {pins : List (Addr × Obj)} {σ : St} {H : Hp} {s : Shared} {a : Addr} {kvs : List (Key × V)} {A : Around} {E : Value → Shared → Prop}
end
section
variable {X : Cx} {pins : List (Addr × Obj)} {σ : St} {H : Hp} {s : Shared} {a : Addr} {y : V} {u : Value} {A : Around} {E : Value → Shared → Prop}
end
end L2
namespace L2
open PySem PySem.Spec PyProof.Rows
section
variable {X : Cx}
theorem call_lenD:CallR X (.builtin "len") (fun xs H Q=>∃ a kvs,xs=[V.ref a]∧H a=some (.dK kvs)∧Q (.int kvs.length) H):=by
  intro pins s σ H xs us Q I r h
  obtain ⟨a,kvs,rfl,ha,q⟩:=h
  obtain ⟨u,rfl,ru⟩:=vals1 r
  cases ru
  exact d_len I (.inl ha) fun t s' I'=>⟨.int kvs.length,H,I',⟨t,rfl⟩,q⟩
end
section
variable {κ : Type} [DecidableEq κ]
end
end L2
namespace L2
open PySem PySem.Spec PyProof.Rows
section
variable {X : Cx} {pins : List (Addr × Obj)} {σ : St} {H : Hp} {s : Shared} {d : Addr} {a b : HO}
theorem Inv.swap (I:Inv X pins σ H s) (e:H d=some a) (h1:(∃ kvs,a=.dK kvs)∨∃ o kvs,a=.frz o (.dK kvs)) (hf:∀ o' u',X.H₀ d≠some (.frz o' u')) (ok:ObjOk X.prog X.w (upd H d b) s.heap d b):Inv X pins σ (upd H d b) s:=by
  have notT:∀ xs,H d≠some (.tup xs):=fun xs z=>by
    rw [e] at z
    rcases h1 with ⟨kvs,rfl⟩ | ⟨o,kvs,rfl⟩ <;> cases z
  have notB:∀ ps,H d≠some (.tbl ps):=fun ps z=>by
    rw [e] at z
    rcases h1 with ⟨kvs,rfl⟩ | ⟨o,kvs,rfl⟩ <;> cases z
  have notO:∀ x,H d≠some (.own x):=fun x z=>by
    rw [e] at z
    rcases h1 with ⟨kvs,rfl⟩ | ⟨o,kvs,rfl⟩ <;> cases z
  have notN:H d≠none:=fun z=>by rw [e] at z; cases z
  have hok:HOk X.prog X.w (upd H d b) s.heap:=fun c oc ec=>by
    by_cases hc:c=d
    · subst hc
      rw [upd_same] at ec
      cases ec
      exact ok
    · rw [upd_ne hc] at ec
      refine (I.hok c oc ec).stay (fun _ _ _ q=>q) (fun x q=>?_) (fun x xs q=>?_)
      · rw [upd_ne (fun z=>notO c (by rw [← z]; exact q))]; exact q
      · rw [upd_ne (fun z=>notT xs (by rw [← z]; exact q))]; exact q
  have nn:∀ {c:Addr},H c=none→upd H d b c=none:=fun {c} q=>by rw [upd_ne (fun z=>notN (by rw [← z]; exact q))]; exact q
  have B:=I.base
  exact ⟨I.ok,I.os,I.bare,⟨B.keep,B.slot,fun c o q n hx=>nn (B.free c o q n hx),B.there,fun c xs q=>by rw [upd_ne (fun z=>notT xs (by rw [← z]; exact B.tups c xs q))]; exact B.tups c xs q,
    fun c o u q=>by rw [upd_ne (fun z=>hf o u (by rw [← z]; exact q))]; exact B.frzs c o u q,fun c ps q=>by
      obtain ⟨m,q2⟩:=B.tbls c ps q
      exact ⟨m,by rw [upd_ne (fun z=>notB _ (by rw [← z]; exact q2))]; exact q2⟩⟩,I.loc,I.cell,nn I.free,fun x c q=>nn (I.freeC x c q),fun p hp=>let ⟨p1,p2,p3⟩:=I.pin p hp; ⟨p1,nn p2,p3⟩,hok,I.len,I.kno⟩
theorem Inv.notFrz {kvs:List (Key × V)} (I:Inv X pins σ H s) (e:H d=some (.dK kvs)):∀ o' u',X.H₀ d≠some (.frz o' u'):=fun o' u' z=>by
  have:=I.base.frzs d o' u' z
  rw [e] at this; cases this
theorem Inv.thaw {o:Obj} {kvs:List (Key × V)} (I:Inv X pins σ H s) (e:H d=some (.frz o (.dK kvs))) (hf:∀ o' u',X.H₀ d≠some (.frz o' u')):Inv X pins σ (upd H d (.dK kvs)) s:=by
  refine I.swap e (.inr ⟨o,kvs,rfl⟩) hf ?_
  obtain ⟨_,q⟩:=I.hok d _ e
  exact q
end
def Itd (d:Addr) (o:Obj) (kvs:List (Key × V)):It:=⟨fun i H=>H d=some (.frz o (.dK kvs))∧i < kvs.length,fun i H x H'=>H'=H∧∃ k v,kvs[i]?=some (k,v)∧x=kV k,fun i H=>H d=some (.frz o (.dK kvs))∧kvs.length≤i⟩
theorem pair_at {α β:Type} {F:α→β→Prop}:∀ {xs:List α} {ys:List β},Paired F xs ys→∀ (i:Nat) {x:α} {y:β},xs[i]?=some x→ys[i]?=some y→F x y
  | _,_,.nil,_,_,_,h,_=>by cases h
  | _,_,.cons e _,0,_,_,h1,h2=>by cases h1; cases h2; exact e
  | _,_,.cons _ r,i + 1,_,_,h1,h2=>pair_at r i h1 h2
theorem key_rel {P:Program} {w:World} {k:Key} {v:Value} (h:(mixKind P w).is k v=true):RelV (kV k) v:=by
  rcases keyIs_shape (show keyIs k v=true from h) with ⟨i,t,rfl,rfl⟩ | ⟨x,t,rfl,rfl⟩
  · exact ⟨t,rfl⟩
  · exact ⟨t,rfl⟩
theorem turn_dict {P:Program} {w:World} {K:PySem.W.Frag} {tg:Expr} (d it:Addr) (o:Obj) {kvs:List (Key × V)} {vs:List (Key × Value)} {ep:Nat} (hk:KV kvs vs) (hd:∀ h:Heap,h.get? d=some o→h.DictAt (mixKind P w) d vs ep) :
    Turn P w K tg (Itd d o kvs) [it] it (fun i h=>h.IsKeyIter it d i vs.length ep) where
  mem:=by simp
  obj:=fun i h st b hb=>by
    have e:b=it:=by simpa using hb
    subst e
    obtain ⟨o,e,c,d⟩:=st
    exact ⟨o,e,fun v z=>by rw [d] at z; cases z⟩
  keep:=fun i h h' st k=>st.at fun o e=>k it (by simp) o e
  item:=by
    intro X hP hw hK hc i pins s σ H E I hf st hg
    subst hP hw hK
    obtain ⟨hq,hi⟩:=hg
    obtain ⟨eo,_⟩:=I.hok d _ hq
    have hl:kvs.length=vs.length:=Paired.length hk
    have ev:vs[i]?=some (vs[i]'(by omega)):=List.getElem?_eq_getElem (by omega)
    obtain ⟨f0,f1,f2,f3,f4,f5⟩:=hf it (by simp)
    have ek:kvs[i]?=some kvs[i]:=List.getElem?_eq_getElem hi
    have same:kvs[i].1=(vs[i]'(by omega)).1:=(pair_at hk i ek ev).1
    refine wpAny_pyNext_dict_item (k:=(vs[i]'(by omega)).1) (v:=(vs[i]'(by omega)).2) st (hd _ eo) ev fun key h' hkey st' sb=>?_
    have I1:Inv X pins σ H { s with heap:=h' }:=I.turned (t':=s.toks) (fun b o hb e=>(sb.2 b hb).trans e) f0 f1 f3 f4 f5
    obtain ⟨o2,e2,c2,d2⟩:=id st'
    refine ⟨key,rfl,go_of (s:={ s with heap:=h' }) e2 c2 d2 (by decide) ⟨kV kvs[i].1,H,I1,?_,⟨rfl,kvs[i].1,kvs[i].2,ek,rfl⟩,st',fun b hb=>(hf b hb).1⟩⟩
    rw [same]
    exact key_rel hkey
  done:=by
    intro X hP hw hK hc i pins s σ H E I hf st hg
    subst hP hw hK
    obtain ⟨hq,hi⟩:=hg
    obtain ⟨eo,_⟩:=I.hok d _ hq
    have hl:kvs.length=vs.length:=Paired.length hk
    obtain ⟨f0,f1,f2,f3,f4,f5⟩:=hf it (by simp)
    exact wpAny_pyNext_dict_end (I.ok.hd hc) st (hd _ eo) (List.getElem?_eq_none (by omega)) fun h' eb=>⟨rfl,I.turned (t':=s.toks) (fun b o hb e=>eb b o hb e) f0 f1 f3 f4 f5⟩
  self:=fun _ _ _ _ _ st h=>wpAny_pyIter_keyiter st h
section
variable {X : Cx} {tg : Expr}
def iDict (td:TE):TI:=fun σ H R=>td σ H fun x H1=>∃ d kvs,x=.ref d∧H1 d=some (.dK kvs)∧∀ o,R (Itd d o kvs) (upd H1 d (.frz o (.dK kvs)))
theorem pi_dict {l:Expr} {tl:TE} (hl:PE X l tl):PI X tg l (iDict tl):=by
  intro pins s σ H R I h
  refine thn (hl pins s σ H _ I h) fun v s1 ⟨x,H1,I1,r1,q1⟩=>?_
  obtain ⟨d,kvs,e,hq,q⟩:=q1
  subst e
  cases r1
  obtain ⟨hz,hsys,vs,kv,o,es,ep,ho,hx,hdat,hks,hps,hn⟩:=dk_of I1.hok hq
  have hd:∀ h:Heap,h.get? d=some o→h.DictAt (mixKind X.prog X.w) d vs ep:=fun h e=>⟨o,es,e,hx,hdat,hks,hps,hn⟩
  refine wpAny_pyIter_dict (knd:=mixKind X.prog X.w) hsys (hd _ ho) ?_
  have I2:Inv X pins σ (upd H1 d (.frz o (.dK kvs))) s1:=I1.swap hq (.inl ⟨kvs,rfl⟩) (I1.notFrz hq) ⟨ho,hz,hsys,vs,kv,o,es,ep,ho,hx,hdat,hks,hps,hn⟩
  refine ⟨s1.heap.objs.size,[s1.heap.objs.size],_,_,_,rfl,I2.kept (t':=s1.toks) fun b o e=>Heap.get?_push_of_some _ e,turn_dict d _ o kv hd,⟨_,Heap.get?_push_size _ rfl,rfl,rfl⟩,fun b hb=>?_,q o⟩
  have e:b=s1.heap.objs.size:=by simpa using hb
  subst e
  exact I2.fpOk (Nat.le_refl _) (I2.hok.fresh (Nat.le_refl _))
def tThaw (H0:Hp) (t:TS):TS:=fun D σ H=>t { D with nx:=fun σ' H'=>∃ d o kvs,H' d=some (.frz o (.dK kvs))∧(∀ o' u',H0 d≠some (.frz o' u'))∧D.nx σ' (upd H' d (.dK kvs)) } σ H
theorem ps_thaw {st:Stmt} {t:TS} (h:PS X st t):PS X st (tThaw X.H₀ t):=by
  intro pins s σ H D I q
  refine thn (h pins s σ H _ I q) fun f s' r=>?_
  cases f with
  | next =>
    obtain ⟨σ',H',I',d,o,kvs,e,n,q'⟩:=r
    exact ⟨σ',_,I'.thaw e n,q'⟩
  | brk=>exact r
  | cont=>exact r
  | ret u=>exact r
end
theorem for_dict {d:Addr} {o:Obj} {kvs:List (Key × V)} {g:TG} {tb:TS} {D:Ends} {σ:St} {H:Hp} (Pv:Nat→St→Hp→Prop) (h0:Pv 0 σ H) (hl:∀ i σ H,i≤kvs.length→Pv i σ H→H d=some (.frz o (.dK kvs)))
    (hs:∀ i k v σ H,kvs[i]?=some (k,v)→Pv i σ H→g (kV k) σ H fun σ2 H2=>tb { D with nx:=Pv (i + 1),ct:=Pv (i + 1),bk:=D.nx } σ2 H2) (hd:∀ σ H,Pv kvs.length σ H→D.nx σ H) :
    ∃ W:Nat→Nat→St→Hp→Prop,(∃ m,W 0 m σ H)∧∀ i m σ H,W i m σ H →
      ((Itd d o kvs).stop i H∧D.nx σ H)∨((Itd d o kvs).go i H∧∃ N:St→Hp→Prop,(∀ σ' H',N σ' H'→∃ m',m' < m∧W (i + 1) m' σ' H')∧∀ x H',(Itd d o kvs).yld i H x H'→g x σ H' fun σ2 H2=>tb { D with nx:=N,ct:=N,bk:=D.nx } σ2 H2):=by
  refine ⟨fun i m σ H=>m=kvs.length - i∧i≤kvs.length∧Pv i σ H,⟨kvs.length,by simp,Nat.zero_le _,h0⟩,?_⟩
  rintro i m σ H ⟨rfl,hi,p⟩
  have q:=hl i σ H hi p
  by_cases hlt:i < kvs.length
  · refine .inr ⟨⟨q,hlt⟩,Pv (i + 1),fun σ' H' p'=>⟨kvs.length - (i + 1),by omega,rfl,hlt,p'⟩,fun x H' y=>?_⟩
    obtain ⟨e,k,v,ek,rfl⟩:=y
    subst e
    exact hs i k v σ _ ek p
  · have e:i=kvs.length:=by omega
    subst e
    exact .inl ⟨⟨q,Nat.le_refl _⟩,hd σ H p⟩
end L2
namespace Ws
inductive Wd where
  | non | int (i:Int) | pair (a b:Int)
  deriving DecidableEq
inductive Kd where
  | fewest | widest | counted | likeliest | chances | musts | rests (m:Nat)
  deriving DecidableEq
def isShare:Wd→Bool
  | .pair a b=>decide (0 < b) && decide (Int.gcd a b=1)
  | _=>false
def isFrom:Wd→Int→Bool
  | .int i,l=>decide (l≤i)
  | _,_=>false
def isWorth:Kd→Wd→Bool
  | .fewest,w=>decide (w=.non) || isFrom w 0
  | .widest,.int i=>decide (0≤i) && decide (i≤1000000000)
  | .counted,w=>isFrom w (-1)
  | .likeliest,.pair a b=>isShare (.pair a b) && (decide (0≤a) && decide (a≤b))
  | .chances,.pair a b=>isShare (.pair a b) && decide (0≤a)
  | .musts,w=>decide (w=.non) || isFrom w 0
  | .rests m,.int i=>decide (0≤i) && decide (i < 2 ^ m)
  | _,_=>false
def KdOk:Kd→Prop
  | .rests m=>1≤m∧m≤12
  | _=>True
def kdOf (which:Int) (m:Int):Kd :=
  if which=0 then .fewest else if which=1 then .widest else if which=2 then .counted else if which=3 then .likeliest else if which=4 then .chances else if which=5 then .musts else .rests m.toNat
def shareW (t b:Int):Wd:=.pair (t / (Int.gcd t b:Int)) (b / (Int.gcd t b:Int))
def noneW (which:Int):Wd:=if which=0∨which=5 then .non else if which=3∨which=4 then .pair 0 1 else .int 0
def restW (which:Int):Wd:=if which=0∨which=5 then .int 0 else if which=1 then .int 1000000000 else if which=3∨which=4 then .pair 1 1 else .int 1
def worthW (which m cell:Int):Wd :=
  if cell % 6=1 then noneW which else if cell % 6=2 then restW which
  else if which=0 then .int (if cell % 6 < 5 then cell / 6 % 20 else cell / 6 % 10 ^ 30)
  else if which=1 then .int (if cell % 6 < 5 then cell / 6 % 20 else cell / 6 % (10 ^ 9 + 1))
  else if which=2 then .int (if cell % 6 < 5 then cell / 6 % 5 - 1 else cell / 6 % 10 ^ 30)
  else if which=3 then shareW (cell / 6 % (1 + cell / 6 / 7 % 12 + 1)) (1 + cell / 6 / 7 % 12)
  else if which=4 then shareW (cell / 6 % 9) (1 + cell / 6 / 9 % 12)
  else if which=5 then .int (if cell % 6 < 5 then cell / 6 % 16 else cell / 6 % 10 ^ 30)
  else .int (cell / 6 % 2 ^ m.toNat)
theorem gcd_step (x y:Int):Int.gcd y (x % y)=Int.gcd x y:=by
  rw [Int.gcd_comm x y]
  refine Int.gcd_right_eq_iff.mpr fun c hc=>?_
  have e:x=x % y + y * (x / y):=(Int.emod_add_mul_ediv x y).symm
  have h2:c ∣ y * (x / y):=Int.dvd_trans hc (Int.dvd_mul_right _ _)
  constructor
  · intro h; rw [e]; exact Int.dvd_add h h2
  · intro h
    have:x % y=x - y * (x / y):=by omega
    rw [this]; exact Int.dvd_sub h h2
theorem gcd_pos {a b:Int} (h:0 < b):0 < (Int.gcd a b:Int):=by
  have:0 < Int.gcd a b:=Int.gcd_pos_iff.mpr (.inr (by omega))
  exact Int.natCast_pos.mpr this
theorem shareW_bounds {t b:Int} (ht:0≤t) (h:0 < b):∃ x y,shareW t b=.pair x y∧0≤x∧x≤t∧0 < y∧y≤b∧(t≤b→x≤y)∧Int.gcd x y=1:=by
  have g:=gcd_pos (a:=t) h
  have hb:(Int.gcd t b:Int) ∣ b:=Int.gcd_dvd_right ..
  refine ⟨_,_,rfl,Int.ediv_nonneg ht (Int.le_of_lt g),Int.ediv_le_self _ ht,Int.ediv_pos_of_pos_of_dvd h (Int.le_of_lt g) hb,Int.ediv_le_self _ (Int.le_of_lt h),fun le=>Int.ediv_le_ediv g le,?_⟩
  exact Int.gcd_ediv_gcd_ediv_gcd (by exact_mod_cast g)
theorem isWorth_none {which m:Int} (h0:0≤which) (h7:which < 7):isWorth (kdOf which m) (noneW which)=true:=by
  have:which=0∨which=1∨which=2∨which=3∨which=4∨which=5∨which=6:=by omega
  rcases this with rfl | rfl | rfl | rfl | rfl | rfl | rfl <;> simp [kdOf,noneW,isWorth,isShare,isFrom]
  exact Int.pow_pos (by decide)
theorem isWorth_rest {which m:Int} (h0:0≤which) (h7:which < 7) (hm:1≤m):isWorth (kdOf which m) (restW which)=true:=by
  have:which=0∨which=1∨which=2∨which=3∨which=4∨which=5∨which=6:=by omega
  rcases this with rfl | rfl | rfl | rfl | rfl | rfl | rfl <;> simp [kdOf,restW,isWorth,isShare,isFrom]
  obtain ⟨k,hk⟩:∃ k:Nat,m.toNat=k + 1:=⟨m.toNat - 1,by omega⟩
  rw [hk,Int.pow_succ]
  have:(0:Int) < 2 ^ k:=Int.pow_pos (by decide)
  omega
theorem isWorth_worth {which m cell:Int} (h0:0≤which) (h7:which < 7) (hm:1≤m):isWorth (kdOf which m) (worthW which m cell)=true:=by
  unfold worthW
  split
  · exact isWorth_none h0 h7
  split
  · exact isWorth_rest h0 h7 hm
  have e30:∀ c:Int,0≤c % 10 ^ 30:=fun c=>Int.emod_nonneg _ (by decide)
  have:which=0∨which=1∨which=2∨which=3∨which=4∨which=5∨which=6:=by omega
  rcases this with rfl | rfl | rfl | rfl | rfl | rfl | rfl
  · simp only [kdOf,isWorth,isFrom,if_true]
    have:=e30 (cell / 6)
    split <;> simp <;> omega
  · simp [kdOf,isWorth]
    split <;> omega
  · simp [kdOf,isWorth,isFrom]
    have:=e30 (cell / 6)
    split <;> omega
  · obtain ⟨x,y,e,a1,a2,a3,a4,a5,a6⟩:=shareW_bounds (t:=cell / 6 % (1 + cell / 6 / 7 % 12 + 1)) (b:=1 + cell / 6 / 7 % 12) (Int.emod_nonneg _ (by omega)) (by omega)
    simp only [show ¬ ((3:Int)=0) by decide,show ¬ ((3:Int)=1) by decide,show ¬ ((3:Int)=2) by decide,if_false,if_true,kdOf]
    rw [e]
    have lt:=Int.emod_lt_of_pos (cell / 6) (show 0 < 1 + cell / 6 / 7 % 12 + 1 by omega)
    have:=a5 (by omega)
    simp only [isWorth,isShare,Bool.and_eq_true,decide_eq_true_eq]
    exact ⟨⟨a3,a6⟩,a1,this⟩
  · obtain ⟨x,y,e,a1,a2,a3,a4,a5,a6⟩:=shareW_bounds (t:=cell / 6 % 9) (b:=1 + cell / 6 / 9 % 12) (by omega) (by omega)
    simp only [show ¬ ((4:Int)=0) by decide,show ¬ ((4:Int)=1) by decide,show ¬ ((4:Int)=2) by decide,show ¬ ((4:Int)=3) by decide,if_false,if_true,kdOf]
    rw [e]
    simp only [isWorth,isShare,Bool.and_eq_true,decide_eq_true_eq]
    exact ⟨⟨a3,a6⟩,a1⟩
  · simp [kdOf,isWorth,isFrom]
    have:=e30 (cell / 6)
    split <;> omega
  · simp only [show ¬ ((6:Int)=0) by decide,show ¬ ((6:Int)=1) by decide,show ¬ ((6:Int)=2) by decide,show ¬ ((6:Int)=3) by decide,show ¬ ((6:Int)=4) by decide,show ¬ ((6:Int)=5) by decide,if_false,kdOf,isWorth,Bool.and_eq_true,decide_eq_true_eq]
    have p:(0:Int) < 2 ^ m.toNat:=Int.pow_pos (by decide)
    exact ⟨Int.emod_nonneg _ (Int.ne_of_gt p),Int.emod_lt_of_pos _ p⟩
end Ws
namespace Ws
structure KSR (S:Type) where
  zero:S
  one:S
  add:S→S→S
  mul:S→S→S
  star:S→Option S
  add_assoc:∀ a b c,add (add a b) c=add a (add b c)
  add_comm:∀ a b,add a b=add b a
  zero_add:∀ a,add zero a=a
  mul_assoc:∀ a b c,mul (mul a b) c=mul a (mul b c)
  mul_comm:∀ a b,mul a b=mul b a
  one_mul:∀ a,mul one a=a
  zero_mul:∀ a,mul zero a=zero
  mul_add:∀ a b c,mul a (add b c)=add (mul a b) (mul a c)
  anti:∀ a b c d,add a c=b→add b d=a→a=b
  star_eq:∀ a s,star a=some s→s=add one (mul a s)
  star_ind:∀ a s b x c,star a=some s→add (add b (mul a x)) c=x→∃ d,add (mul s b) d=x
def oMin:Option Nat→Option Nat→Option Nat
  | none,b=>b
  | a,none=>a
  | some i,some j=>some (min i j)
def oAdd:Option Nat→Option Nat→Option Nat
  | some i,some j=>some (i + j)
  | _,_=>none
def oMul:Option Nat→Option Nat→Option Nat
  | some i,some j=>some (i * j)
  | some 0,none=>some 0
  | none,some 0=>some 0
  | _,_=>none
def oAnd:Option Nat→Option Nat→Option Nat
  | none,b=>b
  | a,none=>a
  | some i,some j=>some (i &&& j)
def oOr:Option Nat→Option Nat→Option Nat
  | some i,some j=>some (i ||| j)
  | _,_=>none
theorem anti_idem {S:Type} {add:S→S→S} (as:∀ a b c,add (add a b) c=add a (add b c)) (cm:∀ a b,add a b=add b a) (id:∀ a,add a a=a) (a b c d:S) (h1:add a c=b) (h2:add b d=a):a=b:=by
  have e1:add b a=b:=by rw [← h1,as,cm c a,← as,id]
  have e2:add a b=a:=by rw [← h2,as,cm d b,← as,id]
  rw [← e2,cm,e1]
theorem star1_ind {S:Type} {add mul:S→S→S} {one:S} (as:∀ a b c,add (add a b) c=add a (add b c)) (om:∀ a,mul one a=a) (a b x c:S) (h:add (add b (mul a x)) c=x):∃ d,add (mul one b) d=x :=
  ⟨add (mul a x) c,by rw [om,← as]; exact h⟩
def ksFewest:KSR (Option Nat) where
  zero:=none
  one:=some 0
  add:=oMin
  mul:=oAdd
  star:=fun _=>some (some 0)
  add_assoc:=fun a b c=>by cases a <;> cases b <;> cases c <;> simp [oMin,Nat.min_assoc]
  add_comm:=fun a b=>by cases a <;> cases b <;> simp [oMin,Nat.min_comm]
  zero_add:=fun a=>by cases a <;> rfl
  mul_assoc:=fun a b c=>by cases a <;> cases b <;> cases c <;> simp [oAdd,Nat.add_assoc]
  mul_comm:=fun a b=>by cases a <;> cases b <;> simp [oAdd,Nat.add_comm]
  one_mul:=fun a=>by cases a <;> simp [oAdd]
  zero_mul:=fun a=>by cases a <;> rfl
  mul_add:=fun a b c=>by cases a <;> cases b <;> cases c <;> simp [oAdd,oMin,Nat.add_min_add_left]
  anti:=anti_idem (fun a b c=>by cases a <;> cases b <;> cases c <;> simp [oMin,Nat.min_assoc]) (fun a b=>by cases a <;> cases b <;> simp [oMin,Nat.min_comm]) (fun a=>by cases a <;> simp [oMin])
  star_eq:=fun a s h=>by cases h; cases a <;> simp [oAdd,oMin]
  star_ind:=fun a s b x c h=>by
    cases h
    exact star1_ind (fun a b c=>by cases a <;> cases b <;> cases c <;> simp [oMin,Nat.min_assoc]) (fun a=>by cases a <;> simp [oAdd]) a b x c
theorem and_or_distrib (i j k:Nat):i ||| (j &&& k)=(i ||| j) &&& (i ||| k):=by
  apply Nat.eq_of_testBit_eq; intro n; simp only [Nat.testBit_or,Nat.testBit_and]; cases i.testBit n <;> simp
def ksMusts:KSR (Option Nat) where
  zero:=none
  one:=some 0
  add:=oAnd
  mul:=oOr
  star:=fun _=>some (some 0)
  add_assoc:=fun a b c=>by cases a <;> cases b <;> cases c <;> simp [oAnd,Nat.and_assoc]
  add_comm:=fun a b=>by cases a <;> cases b <;> simp [oAnd,Nat.and_comm]
  zero_add:=fun a=>by cases a <;> rfl
  mul_assoc:=fun a b c=>by cases a <;> cases b <;> cases c <;> simp [oOr,Nat.or_assoc]
  mul_comm:=fun a b=>by cases a <;> cases b <;> simp [oOr,Nat.or_comm]
  one_mul:=fun a=>by cases a <;> simp [oOr]
  zero_mul:=fun a=>by cases a <;> rfl
  mul_add:=fun a b c=>by cases a <;> cases b <;> cases c <;> simp [oOr,oAnd,and_or_distrib]
  anti:=anti_idem (fun a b c=>by cases a <;> cases b <;> cases c <;> simp [oAnd,Nat.and_assoc]) (fun a b=>by cases a <;> cases b <;> simp [oAnd,Nat.and_comm]) (fun a=>by cases a <;> simp [oAnd])
  star_eq:=fun a s h=>by cases h; cases a <;> simp [oOr,oAnd]
  star_ind:=fun a s b x c h=>by
    cases h
    exact star1_ind (fun a b c=>by cases a <;> cases b <;> cases c <;> simp [oAnd,Nat.and_assoc]) (fun a=>by cases a <;> simp [oOr]) a b x c
def oStar:Option Nat→Option Nat
  | some 0=>some 1
  | _=>none
theorem oMul_some (i j:Nat):oMul (some i) (some j)=some (i * j):=by cases i <;> cases j <;> simp [oMul]
theorem oMul_comm (a b:Option Nat):oMul a b=oMul b a:=by
  cases a with
  | none=>cases b with
    | none=>rfl
    | some j=>cases j <;> rfl
  | some i=>cases b with
    | none=>cases i <;> rfl
    | some j=>rw [oMul_some,oMul_some,Nat.mul_comm]
theorem oMul_zero (a:Option Nat):oMul (some 0) a=some 0:=by cases a <;> simp [oMul]
theorem oMul_assoc (a b c:Option Nat):oMul (oMul a b) c=oMul a (oMul b c):=by
  rcases a with _ | _ | i <;> rcases b with _ | _ | j <;> rcases c with _ | _ | k <;> simp [oMul,Nat.mul_assoc,Nat.add_mul,Nat.mul_add,Nat.add_assoc]
theorem oMul_add (a b c:Option Nat):oMul a (oAdd b c)=oAdd (oMul a b) (oMul a c):=by
  rcases a with _ | _ | i <;> rcases b with _ | _ | j <;> rcases c with _ | _ | k <;> simp [oMul,oAdd,Nat.mul_add,Nat.add_mul] <;> first | rfl | omega | skip
theorem oAdd_assoc (a b c:Option Nat):oAdd (oAdd a b) c=oAdd a (oAdd b c):=by cases a <;> cases b <;> cases c <;> simp [oAdd,Nat.add_assoc]
theorem oAdd_comm (a b:Option Nat):oAdd a b=oAdd b a:=by cases a <;> cases b <;> simp [oAdd,Nat.add_comm]
def ksCounted:KSR (Option Nat) where
  zero:=some 0
  one:=some 1
  add:=oAdd
  mul:=oMul
  star:=fun a=>some (oStar a)
  add_assoc:=oAdd_assoc
  add_comm:=oAdd_comm
  zero_add:=fun a=>by cases a <;> simp [oAdd]
  mul_assoc:=oMul_assoc
  mul_comm:=oMul_comm
  one_mul:=fun a=>by
    cases a with
    | none=>rfl
    | some i=>rw [oMul_some,Nat.one_mul]
  zero_mul:=oMul_zero
  mul_add:=oMul_add
  anti:=fun a b c d h1 h2=>by
    cases a <;> cases b <;> cases c <;> cases d <;> simp [oAdd] at h1 h2 ⊢
    omega
  star_eq:=fun a s h=>by
    cases h
    rcases a with _ | _ | i <;> simp [oStar,oMul,oAdd]
  star_ind:=fun a s b x c h e=>by
    cases h
    rcases a with _ | _ | i
    · rcases b with _ | _ | j
      · have:x=none:=by rw [← e]; simp [oAdd]
        exact ⟨none,by rw [this]; rfl⟩
      · exact ⟨x,by cases x <;> simp [oStar,oMul,oAdd]⟩
      · refine ⟨none,?_⟩
        rcases x with _ | _ | n
        · rfl
        · rcases c with _ | k <;> simp [oMul,oAdd] at e
        · rcases c with _ | k <;> simp [oMul,oAdd] at e
    · refine ⟨c,?_⟩
      rw [← e,show oStar (some 0)=some 1 from rfl]
      rw [oMul_zero]
      cases b <;> simp [oMul,oAdd]
    · rcases b with _ | _ | j
      · have:x=none:=by rw [← e]; simp [oAdd]
        exact ⟨none,by rw [this]; rfl⟩
      · exact ⟨x,by cases x <;> simp [oStar,oMul,oAdd]⟩
      · refine ⟨none,?_⟩
        rcases x with _ | n
        · rfl
        · rcases c with _ | k
          · rw [oMul_some] at e; simp [oAdd] at e
          · rw [oMul_some] at e
            simp only [oAdd,Option.some.injEq] at e
            have:n≤(i + 1) * n:=Nat.le_mul_of_pos_left n (by omega)
            omega
abbrev Wid:={n:Nat // n≤1000000000}
def ksWidest:KSR Wid where
  zero:=⟨0,by omega⟩
  one:=⟨1000000000,by omega⟩
  add:=fun a b=>⟨max a.1 b.1,by have:=a.2; have:=b.2; omega⟩
  mul:=fun a b=>⟨min a.1 b.1,by have:=a.2; have:=b.2; omega⟩
  star:=fun _=>some ⟨1000000000,by omega⟩
  add_assoc:=fun a b c=>Subtype.ext (by simp [Nat.max_assoc])
  add_comm:=fun a b=>Subtype.ext (by simp [Nat.max_comm])
  zero_add:=fun a=>Subtype.ext (by simp)
  mul_assoc:=fun a b c=>Subtype.ext (by simp [Nat.min_assoc])
  mul_comm:=fun a b=>Subtype.ext (by simp [Nat.min_comm])
  one_mul:=fun a=>Subtype.ext (by have:=a.2; show min 1000000000 a.1=a.1; omega)
  zero_mul:=fun a=>Subtype.ext (by simp)
  mul_add:=fun a b c=>Subtype.ext (by show min a.1 (max b.1 c.1)=max (min a.1 b.1) (min a.1 c.1); omega)
  anti:=fun a b c d h1 h2=>Subtype.ext (by have:=congrArg Subtype.val h1; have:=congrArg Subtype.val h2; simp at *; omega)
  star_eq:=fun a s h=>by cases h; exact Subtype.ext (by have:=a.2; show 1000000000=max 1000000000 (min a.1 1000000000); omega)
  star_ind:=fun a s b x c h e=>by
    cases h
    exact star1_ind (add:=fun a b:Wid=>⟨max a.1 b.1,by have:=a.2; have:=b.2; omega⟩) (mul:=fun a b:Wid=>⟨min a.1 b.1,by have:=a.2; have:=b.2; omega⟩) (one:=⟨1000000000,by omega⟩) (fun a b c=>Subtype.ext (by simp [Nat.max_assoc])) (fun a=>Subtype.ext (by have:=a.2; show min 1000000000 a.1=a.1; omega)) a b x c e
end Ws
namespace Ws
abbrev Lik:={q:Rat // 0≤q∧q≤1}
abbrev Cha:={q:Rat // 0≤q}
theorem rmul_nonneg {a b:Rat} (ha:0≤a) (hb:0≤b):0≤a * b:=Rat.mul_nonneg ha hb
theorem rmul_le_one {a b:Rat} (ha:0≤a) (ha1:a≤1) (hb:0≤b) (hb1:b≤1):a * b≤1:=by
  have:=Rat.mul_le_mul_of_nonneg_left hb1 ha
  grind
def rmax (a b:Rat):Rat:=if a < b then b else a
theorem rmul_max {a b c:Rat} (ha:0≤a):a * rmax b c=rmax (a * b) (a * c):=by
  unfold rmax
  by_cases h:b < c
  · rw [if_pos h]
    by_cases z:a * b < a * c
    · rw [if_pos z]
    · rw [if_neg z]
      have:=Rat.mul_le_mul_of_nonneg_left (Rat.le_of_lt h) ha
      grind
  · rw [if_neg h]
    by_cases z:a * b < a * c
    · have:=Rat.mul_le_mul_of_nonneg_left (show c≤b by grind) ha
      grind
    · rw [if_neg z]
theorem rmax_assoc (a b c:Rat):rmax (rmax a b) c=rmax a (rmax b c):=by unfold rmax; grind
theorem rmax_comm (a b:Rat):rmax a b=rmax b a:=by unfold rmax; grind
def ksLikeliest:KSR Lik where
  zero:=⟨0,by grind⟩
  one:=⟨1,by grind⟩
  add:=fun a b=>⟨rmax a.1 b.1,by have:=a.2; have:=b.2; unfold rmax; grind⟩
  mul:=fun a b=>⟨a.1 * b.1,rmul_nonneg a.2.1 b.2.1,rmul_le_one a.2.1 a.2.2 b.2.1 b.2.2⟩
  star:=fun _=>some ⟨1,by grind⟩
  add_assoc:=fun a b c=>Subtype.ext (rmax_assoc _ _ _)
  add_comm:=fun a b=>Subtype.ext (rmax_comm _ _)
  zero_add:=fun a=>Subtype.ext (by have:=a.2; show rmax 0 a.1=a.1; unfold rmax; grind)
  mul_assoc:=fun a b c=>Subtype.ext (by show a.1 * b.1 * c.1=a.1 * (b.1 * c.1); grind)
  mul_comm:=fun a b=>Subtype.ext (by show a.1 * b.1=b.1 * a.1; grind)
  one_mul:=fun a=>Subtype.ext (by show 1 * a.1=a.1; grind)
  zero_mul:=fun a=>Subtype.ext (by show 0 * a.1=0; grind)
  mul_add:=fun a b c=>Subtype.ext (rmul_max a.2.1)
  anti:=fun a b c d h1 h2=>Subtype.ext (by have h1:rmax a.1 c.1=b.1:=congrArg Subtype.val h1; have h2:rmax b.1 d.1=a.1:=congrArg Subtype.val h2; unfold rmax at *; grind)
  star_eq:=fun a s h=>by cases h; exact Subtype.ext (by have:=a.2; show 1=rmax 1 (a.1 * 1); unfold rmax; grind)
  star_ind:=fun a s b x c h e=>by
    cases h
    refine ⟨⟨rmax (a.1 * x.1) c.1,by have:=a.2; have:=c.2; have:=rmul_nonneg a.2.1 x.2.1; have:=rmul_le_one a.2.1 a.2.2 x.2.1 x.2.2; unfold rmax; grind⟩,Subtype.ext ?_⟩
    have e:rmax (rmax b.1 (a.1 * x.1)) c.1=x.1:=congrArg Subtype.val e
    show rmax (1 * b.1) (rmax (a.1 * x.1) c.1)=x.1
    rw [← rmax_assoc,show 1 * b.1=b.1 by grind]
    exact e
theorem rinv_nonneg {a:Rat} (h:a < 1):0≤(1 - a)⁻¹:=Rat.le_of_lt (Rat.inv_pos.mpr (by grind))
def ksChances:KSR Cha where
  zero:=⟨0,by grind⟩
  one:=⟨1,by grind⟩
  add:=fun a b=>⟨a.1 + b.1,by have:=a.2; have:=b.2; grind⟩
  mul:=fun a b=>⟨a.1 * b.1,rmul_nonneg a.2 b.2⟩
  star:=fun a=>if h:a.1 < 1 then some ⟨(1 - a.1)⁻¹,rinv_nonneg h⟩ else none
  add_assoc:=fun a b c=>Subtype.ext (by show a.1 + b.1 + c.1=a.1 + (b.1 + c.1); grind)
  add_comm:=fun a b=>Subtype.ext (by show a.1 + b.1=b.1 + a.1; grind)
  zero_add:=fun a=>Subtype.ext (by show 0 + a.1=a.1; grind)
  mul_assoc:=fun a b c=>Subtype.ext (by show a.1 * b.1 * c.1=a.1 * (b.1 * c.1); grind)
  mul_comm:=fun a b=>Subtype.ext (by show a.1 * b.1=b.1 * a.1; grind)
  one_mul:=fun a=>Subtype.ext (by show 1 * a.1=a.1; grind)
  zero_mul:=fun a=>Subtype.ext (by show 0 * a.1=0; grind)
  mul_add:=fun a b c=>Subtype.ext (by show a.1 * (b.1 + c.1)=a.1 * b.1 + a.1 * c.1; grind)
  anti:=fun a b c d h1 h2=>Subtype.ext (by have h1:a.1 + c.1=b.1:=congrArg Subtype.val h1; have h2:b.1 + d.1=a.1:=congrArg Subtype.val h2; have:=c.2; have:=d.2; grind)
  star_eq:=fun a s h=>by
    split at h
    · cases h
      exact Subtype.ext (by show (1 - a.1)⁻¹=1 + a.1 * (1 - a.1)⁻¹; grind)
    · cases h
  star_ind:=fun a s b x c h e=>by
    split at h
    · rename_i lt
      cases h
      refine ⟨⟨(1 - a.1)⁻¹ * c.1,rmul_nonneg (rinv_nonneg lt) c.2⟩,Subtype.ext ?_⟩
      have e:b.1 + a.1 * x.1 + c.1=x.1:=congrArg Subtype.val e
      show (1 - a.1)⁻¹ * b.1 + (1 - a.1)⁻¹ * c.1=x.1
      grind
    · cases h
theorem chances_lt (x:Cha) (h:x.1 < 1):ksChances.star x=some ⟨(1 - x.1)⁻¹,rinv_nonneg h⟩:=dif_pos h
theorem chances_ge (x:Cha) (h:¬ x.1 < 1):ksChances.star x=none:=dif_neg h
end Ws
namespace Ws
def raisedN (m b i:Nat):Nat:=((b <<< i) &&& (2 ^ m - 1)) ||| ((b <<< i) >>> m)
def behN (m a b:Nat):Nat:=(List.range m).foldl (fun s i=>if a.testBit i then s ||| raisedN m b i else s) 0
def behTo (m a b n:Nat):Nat:=(List.range n).foldl (fun s i=>if a.testBit i then s ||| raisedN m b i else s) 0
theorem behTo_succ (m a b n:Nat):behTo m a b (n + 1)=if a.testBit n then behTo m a b n ||| raisedN m b n else behTo m a b n:=by
  unfold behTo; rw [List.range_succ,List.foldl_append]; rfl
theorem raised_bit {m b i k:Nat} (hb:b < 2 ^ m) (hi:i < m):(raisedN m b i).testBit k=true ↔ k < m∧∃ j,j < m∧b.testBit j=true∧(i + j) % m=k:=by
  have hz:∀ j,m≤j→b.testBit j=false:=fun j h=>Nat.testBit_lt_two_pow (Nat.lt_of_lt_of_le hb (Nat.pow_le_pow_right (by omega) h))
  unfold raisedN
  rw [Nat.testBit_or,Nat.testBit_and,Nat.testBit_shiftRight,Nat.testBit_two_pow_sub_one,Nat.testBit_shiftLeft,Nat.testBit_shiftLeft]
  simp only [Bool.or_eq_true,Bool.and_eq_true,decide_eq_true_eq]
  constructor
  · rintro (⟨⟨h1,h2⟩,h3⟩ | ⟨h1,h2⟩)
    · refine ⟨h3,k - i,by omega,h2,?_⟩
      rw [show i + (k - i)=k by omega,Nat.mod_eq_of_lt h3]
    · have h4:¬ m≤m + k - i:=fun z=>by rw [hz _ z] at h2; cases h2
      refine ⟨by omega,m + k - i,by omega,h2,?_⟩
      rw [show i + (m + k - i)=k + m by omega,Nat.add_mod_right,Nat.mod_eq_of_lt (by omega)]
  · rintro ⟨h1,j,h2,h3,h4⟩
    by_cases c:i + j < m
    · rw [Nat.mod_eq_of_lt c] at h4
      refine .inl ⟨⟨by omega,?_⟩,h1⟩
      rw [show k - i=j by omega]; exact h3
    · rw [show i + j=(i + j - m) + m by omega,Nat.add_mod_right,Nat.mod_eq_of_lt (by omega)] at h4
      refine .inr ⟨by omega,?_⟩
      rw [show m + k - i=j by omega]; exact h3
theorem behTo_bit {m a b k:Nat} (hb:b < 2 ^ m):∀ n,n≤m→((behTo m a b n).testBit k=true ↔ k < m∧∃ i j,i < n∧j < m∧a.testBit i=true∧b.testBit j=true∧(i + j) % m=k)
  | 0,_=>by simp [behTo]
  | n + 1,h=>by
    have ih:=behTo_bit (a:=a) (k:=k) hb n (by omega)
    rw [behTo_succ]
    by_cases c:a.testBit n=true
    · rw [if_pos c,Nat.testBit_or,Bool.or_eq_true,ih,raised_bit hb (by omega)]
      constructor
      · rintro (⟨h1,i,j,h2,h3,h4⟩ | ⟨h1,j,h2,h3,h4⟩)
        · exact ⟨h1,i,j,by omega,h3,h4⟩
        · exact ⟨h1,n,j,by omega,h2,c,h3,h4⟩
      · rintro ⟨h1,i,j,h2,h3,h4,h5,h6⟩
        by_cases e:i=n
        · subst e; exact .inr ⟨h1,j,h3,h5,h6⟩
        · exact .inl ⟨h1,i,j,by omega,h3,h4,h5,h6⟩
    · rw [if_neg c,ih]
      constructor
      · rintro ⟨h1,i,j,h2,h3,h4⟩; exact ⟨h1,i,j,by omega,h3,h4⟩
      · rintro ⟨h1,i,j,h2,h3,h4,h5,h6⟩
        refine ⟨h1,i,j,?_,h3,h4,h5,h6⟩
        have:i≠n:=fun e=>by subst e; exact c h4
        omega
theorem behN_bit {m a b k:Nat} (hb:b < 2 ^ m):(behN m a b).testBit k=true ↔ k < m∧∃ i j,i < m∧j < m∧a.testBit i=true∧b.testBit j=true∧(i + j) % m=k:=behTo_bit hb m (Nat.le_refl m)
theorem lt_of_bits {m x:Nat} (h:∀ k,x.testBit k=true→k < m):x < 2 ^ m:=by
  apply Nat.lt_pow_two_of_testBit
  intro i hi
  cases e:x.testBit i with
  | false=>rfl
  | true=>have:=h i e; omega
theorem behN_lt {m a b:Nat} (hb:b < 2 ^ m):behN m a b < 2 ^ m:=lt_of_bits fun k h=>((behN_bit hb).mp h).1
theorem bit_lt {m x k:Nat} (h:x < 2 ^ m) (b:x.testBit k=true):k < m:=by
  by_cases c:k < m
  · exact c
  · rw [Nat.testBit_lt_two_pow (Nat.lt_of_lt_of_le h (Nat.pow_le_pow_right (by omega) (by omega)))] at b; cases b
theorem eq_of_bits {x y:Nat} (h:∀ k,x.testBit k=true ↔ y.testBit k=true):x=y:=Nat.eq_of_testBit_eq fun k=>Bool.eq_iff_iff.mpr (h k)
theorem behN_comm {m a b:Nat} (ha:a < 2 ^ m) (hb:b < 2 ^ m):behN m a b=behN m b a:=eq_of_bits fun k=>by
  rw [behN_bit hb,behN_bit ha]
  constructor <;> rintro ⟨h,i,j,h1,h2,h3,h4,h5⟩ <;> exact ⟨h,j,i,h2,h1,h4,h3,by rw [Nat.add_comm]; exact h5⟩
theorem behN_assoc {m a b c:Nat} (hb:b < 2 ^ m) (hc:c < 2 ^ m):behN m (behN m a b) c=behN m a (behN m b c):=eq_of_bits fun k=>by
  rw [behN_bit hc,behN_bit (behN_lt hc)]
  constructor
  · rintro ⟨h,i,j,h1,h2,h3,h4,h5⟩
    obtain ⟨_,p,q,g1,g2,g3,g4,g5⟩:=(behN_bit hb).mp h3
    refine ⟨h,p,(q + j) % m,g1,Nat.mod_lt _ (by omega),g3,(behN_bit hc).mpr ⟨Nat.mod_lt _ (by omega),q,j,g2,h2,g4,h4,rfl⟩,?_⟩
    rw [← h5,← g5,Nat.add_mod_mod,Nat.mod_add_mod,Nat.add_assoc]
  · rintro ⟨h,i,j,h1,h2,h3,h4,h5⟩
    obtain ⟨_,p,q,g1,g2,g3,g4,g5⟩:=(behN_bit hc).mp h4
    refine ⟨h,(i + p) % m,q,Nat.mod_lt _ (by omega),g2,(behN_bit hb).mpr ⟨Nat.mod_lt _ (by omega),i,p,h1,g1,h3,g3,rfl⟩,g4,?_⟩
    rw [← h5,← g5,Nat.add_mod_mod,Nat.mod_add_mod,Nat.add_assoc]
theorem behN_or {m a b c:Nat} (hb:b < 2 ^ m) (hc:c < 2 ^ m):behN m a (b ||| c)=behN m a b ||| behN m a c:=eq_of_bits fun k=>by
  rw [behN_bit (Nat.or_lt_two_pow hb hc),Nat.testBit_or,Bool.or_eq_true,behN_bit hb,behN_bit hc]
  simp only [Nat.testBit_or,Bool.or_eq_true]
  constructor
  · rintro ⟨h,i,j,h1,h2,h3,h4 | h4,h5⟩
    · exact .inl ⟨h,i,j,h1,h2,h3,h4,h5⟩
    · exact .inr ⟨h,i,j,h1,h2,h3,h4,h5⟩
  · rintro (⟨h,i,j,h1,h2,h3,h4,h5⟩ | ⟨h,i,j,h1,h2,h3,h4,h5⟩)
    · exact ⟨h,i,j,h1,h2,h3,.inl h4,h5⟩
    · exact ⟨h,i,j,h1,h2,h3,.inr h4,h5⟩
theorem one_bit {k:Nat}:(1:Nat).testBit k=true ↔ k=0:=by
  rw [show (1:Nat)=2 ^ 0 from rfl,Nat.testBit_two_pow]
  simp; omega
theorem one_lt {m:Nat} (hm:1≤m):1 < 2 ^ m:=Nat.one_lt_two_pow (by omega)
theorem behN_one {m a:Nat} (hm:1≤m) (ha:a < 2 ^ m):behN m 1 a=a:=eq_of_bits fun k=>by
  rw [behN_bit ha]
  constructor
  · rintro ⟨h,i,j,h1,h2,h3,h4,h5⟩
    rw [one_bit] at h3; subst h3
    rw [Nat.zero_add,Nat.mod_eq_of_lt h2] at h5; subst h5; exact h4
  · intro h
    have:=bit_lt ha h
    exact ⟨this,0,k,by omega,this,one_bit.mpr rfl,h,by rw [Nat.zero_add,Nat.mod_eq_of_lt this]⟩
theorem behN_zero {m a:Nat} (ha:a < 2 ^ m):behN m 0 a=0:=eq_of_bits fun k=>by
  rw [behN_bit ha]; simp
def rndTo (m a:Nat):Nat→Nat
  | 0=>1
  | k + 1=>rndTo m a k ||| behN m (rndTo m a k) a
theorem rndTo_lt {m a:Nat} (hm:1≤m) (ha:a < 2 ^ m):∀ k,rndTo m a k < 2 ^ m
  | 0=>one_lt hm
  | k + 1=>Nat.or_lt_two_pow (rndTo_lt hm ha k) (behN_lt ha)
theorem rndTo_stays {m a k : Nat} (h : rndTo m a (k + 1) = rndTo m a k) : ∀ j, k ≤ j → rndTo m a j = rndTo m a k := fun j hj => by
  induction j with
  | zero => obtain rfl : k = 0 := by omega
            rfl
  | succ j ih =>
    by_cases c : k ≤ j
    · have e := ih c
      show rndTo m a j ||| behN m (rndTo m a j) a = _
      rw [e]; exact h
    · obtain rfl : k = j + 1 := by omega
      rfl
def cnt (x:Nat):Nat→Nat
  | 0=>0
  | n + 1=>cnt x n + (if x.testBit n then 1 else 0)
theorem cnt_le (x:Nat):∀ n,cnt x n≤n
  | 0=>Nat.le_refl _
  | n + 1=>by have:=cnt_le x n; unfold cnt; split <;> omega
theorem cnt_mono {x y:Nat} (h:∀ k,x.testBit k=true→y.testBit k=true):∀ n,cnt x n≤cnt y n
  | 0=>Nat.le_refl _
  | n + 1=>by
    have ih:=cnt_mono h n
    unfold cnt
    split
    · rename_i c; rw [if_pos (h n c)]; omega
    · split <;> omega
theorem cnt_lt {x y:Nat} (h:∀ k,x.testBit k=true→y.testBit k=true) (k:Nat) (h1:x.testBit k=false) (h2:y.testBit k=true):∀ n,k < n→cnt x n < cnt y n
  | 0,z=>by omega
  | n + 1,z=>by
    unfold cnt
    by_cases e:k=n
    · subst e
      have:=cnt_mono h k
      rw [h1,h2]; simp; omega
    · have:=cnt_lt h k h1 h2 n (by omega)
      split
      · rename_i c; rw [if_pos (h n c)]; omega
      · split <;> omega
theorem rndTo_grows {m a:Nat} (hm:1≤m) (ha:a < 2 ^ m):∀ k,(∀ j,j < k→rndTo m a (j + 1)≠rndTo m a j)→k + 1≤cnt (rndTo m a k) m
  | 0,_=>by
    obtain ⟨n,rfl⟩:∃ n,m=n + 1:=⟨m - 1,by omega⟩
    have:∀ n,1≤cnt 1 (n + 1):=fun n=>by
      induction n with
      | zero=>simp [cnt]
      | succ n ih=>rw [cnt]; omega
    exact this n
  | k + 1,h=>by
    have ih:=rndTo_grows hm ha k fun j hj=>h j (by omega)
    have ne:=h k (by omega)
    have sub:∀ i,(rndTo m a k).testBit i=true→(rndTo m a (k + 1)).testBit i=true:=fun i z=>by
      show (rndTo m a k ||| behN m (rndTo m a k) a).testBit i=true
      rw [Nat.testBit_or,z]; rfl
    obtain ⟨i,hi⟩:∃ i,(rndTo m a k).testBit i=false∧(rndTo m a (k + 1)).testBit i=true:=by
      refine Classical.byContradiction fun n=>ne (eq_of_bits fun i=>⟨fun z=>?_,sub i⟩)
      refine Classical.byContradiction fun y=>n ⟨i,by cases e:(rndTo m a k).testBit i <;> simp_all,z⟩
    have:=cnt_lt sub i hi.1 hi.2 m (bit_lt (rndTo_lt hm ha (k + 1)) hi.2)
    omega
theorem rndTo_fix {m a:Nat} (hm:1≤m) (ha:a < 2 ^ m):∀ j,m≤j→rndTo m a j=rndTo m a m:=by
  have:∃ k,k < m∧rndTo m a (k + 1)=rndTo m a k:=by
    refine Classical.byContradiction fun n=>?_
    have:=rndTo_grows hm ha m fun j hj e=>n ⟨j,hj,e⟩
    have:=cnt_le (rndTo m a m) m
    omega
  obtain ⟨k,hk,e⟩:=this
  intro j hj
  rw [rndTo_stays e j (by omega),rndTo_stays e m (by omega)]
abbrev Res (m:Nat):={n:Nat // n < 2 ^ m}
theorem or_self (a:Nat):a ||| a=a:=Nat.or_self a
def ksRests (m:Nat) (hm:1≤m):KSR (Res m) where
  zero:=⟨0,Nat.two_pow_pos m⟩
  one:=⟨1,one_lt hm⟩
  add:=fun a b=>⟨a.1 ||| b.1,Nat.or_lt_two_pow a.2 b.2⟩
  mul:=fun a b=>⟨behN m a.1 b.1,behN_lt b.2⟩
  star:=fun a=>some ⟨rndTo m a.1 m,rndTo_lt hm a.2 m⟩
  add_assoc:=fun a b c=>Subtype.ext (Nat.or_assoc _ _ _)
  add_comm:=fun a b=>Subtype.ext (Nat.or_comm _ _)
  zero_add:=fun a=>Subtype.ext (Nat.zero_or _)
  mul_assoc:=fun a b c=>Subtype.ext (behN_assoc b.2 c.2)
  mul_comm:=fun a b=>Subtype.ext (behN_comm a.2 b.2)
  one_mul:=fun a=>Subtype.ext (behN_one hm a.2)
  zero_mul:=fun a=>Subtype.ext (behN_zero a.2)
  mul_add:=fun a b c=>Subtype.ext (behN_or b.2 c.2)
  anti:=fun a b c d h1 h2=>Subtype.ext (anti_idem (add:=fun a b:Nat=>a ||| b) Nat.or_assoc Nat.or_comm Nat.or_self a.1 b.1 c.1 d.1 (congrArg Subtype.val h1) (congrArg Subtype.val h2))
  star_eq:=fun a s h=>by
    cases h
    refine Subtype.ext ?_
    show rndTo m a.1 m=1 ||| behN m a.1 (rndTo m a.1 m)
    have key:∀ k,rndTo m a.1 (k + 1)=1 ||| behN m a.1 (rndTo m a.1 k):=fun k=>by
      induction k with
      | zero=>show 1 ||| behN m 1 a.1=1 ||| behN m a.1 1; rw [behN_comm a.2 (one_lt hm)]
      | succ k ih =>
        have l:=rndTo_lt hm a.2 k
        have e:rndTo m a.1 (k + 2)=rndTo m a.1 (k + 1) ||| behN m (rndTo m a.1 (k + 1)) a.1:=rfl
        have e1:rndTo m a.1 (k + 1)=rndTo m a.1 k ||| behN m (rndTo m a.1 k) a.1:=rfl
        have l1:=rndTo_lt hm a.2 (k + 1)
        rw [e,behN_comm l1 a.2]
        refine eq_of_bits fun i=>?_
        have s1:(rndTo m a.1 (k + 1)).testBit i=true→(1 ||| behN m a.1 (rndTo m a.1 (k + 1))).testBit i=true:=fun z=>by
          rw [ih,Nat.testBit_or,Bool.or_eq_true] at z
          rw [Nat.testBit_or,Bool.or_eq_true]
          rcases z with z | z
          · exact .inl z
          · refine .inr ?_
            rw [e1,behN_or l (behN_lt a.2),Nat.testBit_or,z]; rfl
        have s2:(1:Nat).testBit i=true→(rndTo m a.1 (k + 1)).testBit i=true:=fun z=>by rw [ih,Nat.testBit_or,z]; rfl
        simp only [Nat.testBit_or,Bool.or_eq_true] at s1 ⊢
        constructor
        · rintro (z | z)
          · exact s1 z
          · exact .inr z
        · rintro (z | z)
          · exact .inl (s2 z)
          · exact .inr z
    rw [← key m]
    exact (rndTo_fix hm a.2 (m + 1) (by omega)).symm
  star_ind:=fun a s b x c h e=>by
    cases h
    refine ⟨x,Subtype.ext ?_⟩
    have e:b.1 ||| behN m a.1 x.1 ||| c.1=x.1:=congrArg Subtype.val e
    show behN m (rndTo m a.1 m) b.1 ||| x.1=x.1
    have hb:∀ i,b.1.testBit i=true→x.1.testBit i=true:=fun i z=>by rw [← e,Nat.testBit_or,Nat.testBit_or,z]; rfl
    have hax:∀ i,(behN m a.1 x.1).testBit i=true→x.1.testBit i=true:=fun i z=>by rw [← e,Nat.testBit_or,Nat.testBit_or,z]; simp
    have mono:∀ {p q r:Nat},q < 2 ^ m→r < 2 ^ m→(∀ i,q.testBit i=true→r.testBit i=true)→∀ i,(behN m p q).testBit i=true→(behN m p r).testBit i=true:=fun hq hr z i y=>by
      rw [behN_bit hq] at y
      obtain ⟨h,i,j,h1,h2,h3,h4,h5⟩:=y
      exact (behN_bit hr).mpr ⟨h,i,j,h1,h2,h3,z j h4,h5⟩
    have key:∀ k i,(behN m (rndTo m a.1 k) b.1).testBit i=true→x.1.testBit i=true:=fun k=>by
      induction k with
      | zero=>intro i z; rw [show rndTo m a.1 0=1 from rfl,behN_one hm b.2] at z; exact hb i z
      | succ k ih =>
        intro i z
        have l:=rndTo_lt hm a.2 k
        rw [show rndTo m a.1 (k + 1)=rndTo m a.1 k ||| behN m (rndTo m a.1 k) a.1 from rfl,behN_comm (Nat.or_lt_two_pow l (behN_lt a.2)) b.2,behN_or l (behN_lt a.2),Nat.testBit_or,Bool.or_eq_true] at z
        rcases z with z | z
        · rw [behN_comm b.2 l] at z; exact ih i z
        · rw [behN_comm l a.2,behN_comm b.2 (behN_lt l),behN_assoc l b.2] at z
          exact hax i (mono (behN_lt b.2) x.2 (fun i y=>ih i y) i z)
    refine eq_of_bits fun i=>?_
    rw [Nat.testBit_or,Bool.or_eq_true]
    exact ⟨fun z=>z.elim (key m i) id,.inr⟩
end Ws
namespace Ws
def ofR (q:Rat):Wd:=.pair q.num (q.den:Int)
theorem den_pos (q:Rat):(0:Int) < q.den:=by have:=q.den_nz; omega
theorem shareW_ofR {t b:Int} (h:0 < b):shareW t b=ofR (Rat.divInt t b):=by
  unfold shareW ofR
  rw [Rat.num_divInt,Rat.den_divInt,if_neg (by omega),Int.sign_eq_one_of_pos h,Int.one_mul,Int.gcd_comm b t]
  congr 1
  rw [Int.natCast_ediv,Int.natAbs_of_nonneg (by omega)]
theorem ofR_inj {p q:Rat} (h:ofR p=ofR q):p=q:=by
  unfold ofR at h
  simp only [Wd.pair.injEq] at h
  exact Rat.ext h.1 (by omega)
theorem ofR_gcd (q:Rat):Int.gcd q.num (q.den:Int)=1:=q.reduced
theorem ofR_share (q:Rat):isShare (ofR q)=true:=by
  show (decide ((0:Int) < q.den) && decide (Int.gcd q.num (q.den:Int)=1))=true
  rw [ofR_gcd,decide_eq_true (den_pos q)]; rfl
theorem share_is {a b:Int} (h:isShare (.pair a b)=true):∃ q:Rat,q.num=a∧(q.den:Int)=b:=by
  simp only [isShare,Bool.and_eq_true,decide_eq_true_eq] at h
  refine ⟨⟨a,b.toNat,by omega,?_⟩,rfl,by show ((b.toNat:Nat):Int)=b; omega⟩
  have:b.toNat=b.natAbs:=by omega
  rw [this]; exact h.2
theorem add_shareW (p q:Rat):shareW (p.num * q.den + q.num * p.den) (p.den * q.den)=ofR (p + q):=by
  rw [shareW_ofR (Int.mul_pos (den_pos p) (den_pos q)),← Rat.divInt_add_divInt _ _ (Int.ne_of_gt (den_pos p)) (Int.ne_of_gt (den_pos q)),Rat.num_divInt_den,Rat.num_divInt_den]
theorem mul_cross (p q:Rat):Wd.pair (p.num / (Int.gcd p.num q.den:Int) * (q.num / (Int.gcd q.num p.den:Int))) ((q.den:Int) / (Int.gcd p.num q.den:Int) * ((p.den:Int) / (Int.gcd q.num p.den:Int)))=ofR (p * q):=by
  unfold ofR
  have e1:(p * q).num=p.num / (Int.gcd p.num q.den:Int) * (q.num / (Int.gcd q.num p.den:Int)):=by
    show (Rat.mul p q).num=_
    rw [Rat.mul]
    show p.num.divExact _ _ * q.num.divExact _ _=_
    rw [Int.divExact_eq_ediv,Int.divExact_eq_ediv]; rfl
  have e2:((p * q).den:Int)=(q.den:Int) / (Int.gcd p.num q.den:Int) * ((p.den:Int) / (Int.gcd q.num p.den:Int)):=by
    show ((Rat.mul p q).den:Int)=_
    rw [Rat.mul]
    show ((p.den.divExact _ _ * q.den.divExact _ _:Nat):Int)=_
    rw [Nat.divExact_eq_div,Nat.divExact_eq_div,Int.natCast_mul,Int.mul_comm]
    simp [Int.gcd]
  rw [e1,e2]
theorem mul_shareW (p q:Rat):shareW (p.num * q.num) (p.den * q.den)=ofR (p * q):=by
  rw [shareW_ofR (Int.mul_pos (den_pos p) (den_pos q)),← Rat.divInt_mul_divInt,Rat.num_divInt_den,Rat.num_divInt_den]
theorem lack_divInt (p:Rat):Rat.divInt (p.den - p.num) p.den=1 - p:=by
  have z:(p.den:Rat)≠0:=by intro z; have:=p.den_nz; exact this (by exact_mod_cast z)
  have e:p=(p.num:Rat) / ((p.den:Int):Rat):=by
    conv=>lhs; rw [← Rat.num_divInt_den p]
    rw [Rat.divInt_eq_div]
  have e1:p * (p.den:Rat)=(p.num:Rat):=by
    rw [Rat.intCast_natCast] at e
    rw [Rat.div_def] at e
    have:=congrArg (fun x=>x * (p.den:Rat)) e
    refine this.trans ?_
    show (p.num:Rat) * (p.den:Rat)⁻¹ * (p.den:Rat)=p.num
    rw [Rat.mul_assoc,Rat.inv_mul_cancel _ z,Rat.mul_one]
  rw [Rat.divInt_eq_div,Rat.intCast_sub,Rat.intCast_natCast,← e1,Rat.div_def]
  generalize (p.den:Rat)=d at z
  grind
theorem lack_shareW (p:Rat):shareW (p.den - p.num) p.den=ofR (1 - p):=by
  rw [shareW_ofR (den_pos p),lack_divInt]
theorem num_pos {q:Rat}:0 < q.num ↔ 0 < q:=by
  rw [Rat.lt_iff]
  simp
theorem lt_cross (p q:Rat):p.num * q.den < q.num * p.den ↔ p < q:=(Rat.lt_iff p q).symm
theorem le_one {q:Rat}:q.num≤q.den ↔ q≤1:=by
  rw [Rat.le_iff]
  simp
def Car:Kd→Type
  | .fewest=>Option Nat
  | .widest=>Wid
  | .counted=>Option Nat
  | .likeliest=>Lik
  | .chances=>Cha
  | .musts=>Option Nat
  | .rests m=>Res m
def enc:(kd:Kd)→Car kd→Wd
  | .fewest,none=>.non
  | .fewest,some n=>.int (n:Int)
  | .widest,n=>.int (n.1:Int)
  | .counted,none=>.int (-1)
  | .counted,some n=>.int (n:Int)
  | .likeliest,q=>ofR q.1
  | .chances,q=>ofR q.1
  | .musts,none=>.non
  | .musts,some n=>.int (n:Int)
  | .rests _,n=>.int (n.1:Int)
def ks:(kd:Kd)→KdOk kd→KSR (Car kd)
  | .fewest,_=>ksFewest
  | .widest,_=>ksWidest
  | .counted,_=>ksCounted
  | .likeliest,_=>ksLikeliest
  | .chances,_=>ksChances
  | .musts,_=>ksMusts
  | .rests m,h=>ksRests m h.1
theorem enc_inj:∀ {kd:Kd} {x y:Car kd},enc kd x=enc kd y→x=y
  | .fewest,none,none,_=>rfl
  | .fewest,some _,some _,h=>by
    simp only [enc,Wd.int.injEq] at h; exact congrArg some (by omega)
  | .fewest,none,some _,h=>by cases h
  | .fewest,some _,none,h=>by cases h
  | .widest,x,y,h=>by
    simp only [enc,Wd.int.injEq] at h; exact Subtype.ext (by omega)
  | .counted,none,none,_=>rfl
  | .counted,some _,some _,h=>by
    simp only [enc,Wd.int.injEq] at h; exact congrArg some (by omega)
  | .counted,none,some _,h=>by simp only [enc,Wd.int.injEq] at h; omega
  | .counted,some _,none,h=>by simp only [enc,Wd.int.injEq] at h; omega
  | .likeliest,x,y,h=>Subtype.ext (ofR_inj h)
  | .chances,x,y,h=>Subtype.ext (ofR_inj h)
  | .musts,none,none,_=>rfl
  | .musts,some _,some _,h=>by
    simp only [enc,Wd.int.injEq] at h; exact congrArg some (by omega)
  | .musts,none,some _,h=>by cases h
  | .musts,some _,none,h=>by cases h
  | .rests _,x,y,h=>by
    simp only [enc,Wd.int.injEq] at h; exact Subtype.ext (by omega)
theorem pow_cast (m:Nat):((2 ^ m:Nat):Int)=2 ^ m:=by
  induction m with
  | zero=>rfl
  | succ m ih=>rw [Nat.pow_succ,Int.pow_succ,← ih]; simp
theorem isWorth_enc:∀ {kd:Kd} (x:Car kd),isWorth kd (enc kd x)=true
  | .fewest,none=>by simp [enc,isWorth]
  | .fewest,some _=>by simp [enc,isWorth,isFrom]
  | .widest,x=>by have:=x.2; simp [enc,isWorth]; omega
  | .counted,none=>by simp [enc,isWorth,isFrom]
  | .counted,some _=>by simp only [enc,isWorth,isFrom,decide_eq_true_eq]; omega
  | .likeliest,x=>by
    have h:=x.2
    show (isShare (ofR x.1) && (decide (0≤x.1.num) && decide (x.1.num≤x.1.den)))=true
    rw [ofR_share,decide_eq_true (Rat.num_nonneg.mpr h.1),decide_eq_true (le_one.mpr h.2)]; rfl
  | .chances,x=>by
    have h:=x.2
    show (isShare (ofR x.1) && decide (0≤x.1.num))=true
    rw [ofR_share,decide_eq_true (Rat.num_nonneg.mpr h)]; rfl
  | .musts,none=>by simp [enc,isWorth]
  | .musts,some _=>by simp [enc,isWorth,isFrom]
  | .rests m,x=>by
    have h:=x.2
    simp only [enc,isWorth,Bool.and_eq_true,decide_eq_true_eq]
    have:=pow_cast m
    exact ⟨by omega,by rw [← this]; exact Int.ofNat_lt.mpr h⟩
theorem enc_surj:∀ {kd:Kd} {w:Wd},isWorth kd w=true→∃ x:Car kd,w=enc kd x
  | .fewest,.non,_=>⟨none,rfl⟩
  | .fewest,.int i,h=>by
    simp [isWorth,isFrom] at h
    exact ⟨some i.toNat,by show Wd.int i=Wd.int ((i.toNat:Nat):Int); congr 1; omega⟩
  | .fewest,.pair _ _,h=>by simp [isWorth,isFrom] at h
  | .widest,.int i,h=>by
    simp [isWorth] at h
    exact ⟨⟨i.toNat,by omega⟩,by show Wd.int i=Wd.int ((i.toNat:Nat):Int); congr 1; omega⟩
  | .counted,.int i,h=>by
    simp [isWorth,isFrom] at h
    by_cases e:i=-1
    · exact ⟨none,by rw [e]; rfl⟩
    · exact ⟨some i.toNat,by show Wd.int i=Wd.int ((i.toNat:Nat):Int); congr 1; omega⟩
  | .likeliest,.pair a b,h=>by
    simp only [isWorth,Bool.and_eq_true,decide_eq_true_eq] at h
    obtain ⟨q,rfl,rfl⟩:=share_is h.1
    exact ⟨⟨q,Rat.num_nonneg.mp h.2.1,le_one.mp h.2.2⟩,rfl⟩
  | .chances,.pair a b,h=>by
    simp only [isWorth,Bool.and_eq_true,decide_eq_true_eq] at h
    obtain ⟨q,rfl,rfl⟩:=share_is h.1
    exact ⟨⟨q,Rat.num_nonneg.mp h.2⟩,rfl⟩
  | .musts,.non,_=>⟨none,rfl⟩
  | .musts,.int i,h=>by
    simp [isWorth,isFrom] at h
    exact ⟨some i.toNat,by show Wd.int i=Wd.int ((i.toNat:Nat):Int); congr 1; omega⟩
  | .musts,.pair _ _,h=>by simp [isWorth,isFrom] at h
  | .rests m,.int i,h=>by
    simp only [isWorth,Bool.and_eq_true,decide_eq_true_eq] at h
    have:=pow_cast m
    exact ⟨⟨i.toNat,by rw [← this] at h; omega⟩,by show Wd.int i=Wd.int ((i.toNat:Nat):Int); congr 1; omega⟩
  | .widest,.non,h=>by simp [isWorth] at h
  | .widest,.pair _ _,h=>by simp [isWorth] at h
  | .counted,.non,h=>by simp [isWorth,isFrom] at h
  | .counted,.pair _ _,h=>by simp [isWorth,isFrom] at h
  | .likeliest,.non,h=>by simp [isWorth] at h
  | .likeliest,.int _,h=>by simp [isWorth] at h
  | .chances,.non,h=>by simp [isWorth] at h
  | .chances,.int _,h=>by simp [isWorth] at h
  | .rests _,.non,h=>by simp [isWorth] at h
  | .rests _,.pair _ _,h=>by simp [isWorth] at h
section
variable {S : Type} (R : KSR S)
theorem KSR.add_zero (a:S):R.add a R.zero=a:=by rw [R.add_comm]; exact R.zero_add a
theorem KSR.mul_one (a:S):R.mul a R.one=a:=by rw [R.mul_comm]; exact R.one_mul a
theorem KSR.add_mul (a b c:S):R.mul (R.add a b) c=R.add (R.mul a c) (R.mul b c):=by rw [R.mul_comm,R.mul_add,R.mul_comm c a,R.mul_comm c b]
def KSR.le (a b:S):Prop:=∃ c,R.add a c=b
end
end Ws
namespace Ws
open PySem
open Builtin.Int (intBits)
def Sm (B:Nat):Wd→Prop
  | .non=>True
  | .int i=>intBits i≤B
  | .pair a b=>intBits a≤B∧intBits b≤B
instance decSm (B:Nat):(w:Wd)→Decidable (Sm B w)
  | .non=>.isTrue trivial
  | .int i=>inferInstanceAs (Decidable (intBits i≤B))
  | .pair a b=>inferInstanceAs (Decidable (intBits a≤B∧intBits b≤B))
theorem Sm.mono {B C:Nat} (h:B≤C):∀ {w:Wd},Sm B w→Sm C w
  | .non,_=>trivial
  | .int _,z=>Nat.le_trans z h
  | .pair _ _,z=>⟨Nat.le_trans z.1 h,Nat.le_trans z.2 h⟩
def Big:Nat:=16000000
theorem big_mul {i j:Int} (hi:intBits i≤Big) (hj:intBits j≤Big):IntMulOk i j:=IntMulOk.of_le hi hj (by decide)
theorem bits_nat {n B:Nat} (h:n < 2 ^ B):intBits (n:Int)≤B:=intBits_le_iff.mpr (by simpa using h)
theorem bits_le {i:Int} {B:Nat} (h:i.natAbs < 2 ^ B):intBits i≤B:=intBits_le_iff.mpr h
theorem bitAnd_nat (a b:Nat):Builtin.bitAnd (a:Int) (b:Int)=((a &&& b:Nat):Int):=by
  unfold Builtin.bitAnd
  rw [decide_eq_true (Int.natCast_nonneg a),decide_eq_true (Int.natCast_nonneg b)]
  rfl
theorem bitOr_nat (a b:Nat):Builtin.bitOr (a:Int) (b:Int)=((a ||| b:Nat):Int):=by
  unfold Builtin.bitOr Builtin.bitAnd Builtin.bitNot
  rw [decide_eq_false (show ¬ (0:Int)≤-(a:Int) - 1 by omega),decide_eq_false (show ¬ (0:Int)≤-(b:Int) - 1 by omega)]
  dsimp only
  rw [show (-(-(a:Int) - 1) - 1).toNat=a by omega,show (-(-(b:Int) - 1) - 1).toNat=b by omega]
  omega
theorem shl_nat (a k:Nat):(a:Int) * 2 ^ ((k:Int)).toNat=((a <<< k:Nat):Int):=by
  rw [Nat.shiftLeft_eq,Int.natCast_mul,pow_cast,Int.toNat_natCast]
theorem shr_nat (a k:Nat):(a:Int) / 2 ^ ((k:Int)).toNat=((a >>> k:Nat):Int):=by
  rw [Nat.shiftRight_eq_div_pow,Int.natCast_ediv,pow_cast,Int.toNat_natCast]
theorem mask_nat (m:Nat):(1:Int) * 2 ^ ((m:Int)).toNat - 1=((2 ^ m - 1:Nat):Int):=by
  have:0 < 2 ^ m:=Nat.two_pow_pos m
  rw [Int.one_mul,Int.toNat_natCast,← pow_cast]; omega
theorem bit_test (a k:Nat):(Builtin.bitAnd ((a >>> k:Nat):Int) 1 != 0)=a.testBit k:=by
  rw [show (1:Int)=((1:Nat):Int) from rfl,bitAnd_nat]
  unfold Nat.testBit
  rw [Nat.and_comm]
  generalize 1 &&& a >>> k=z
  cases z with
  | zero=>rfl
  | succ z=>simp; omega
def kno:Kd→Int
  | .fewest=>0 | .widest=>1 | .counted=>2 | .likeliest=>3 | .chances=>4 | .musts=>5 | .rests _=>6
theorem kno_kdOf {which m:Int} (h0:0≤which) (h7:which < 7):kno (kdOf which m)=which:=by
  have:which=0∨which=1∨which=2∨which=3∨which=4∨which=5∨which=6:=by omega
  rcases this with rfl | rfl | rfl | rfl | rfl | rfl | rfl <;> rfl
theorem noneW_kno (kd:Kd) (ok:KdOk kd):noneW (kno kd)=enc kd (ks kd ok).zero:=by cases kd <;> rfl
theorem restW_kno (kd:Kd) (ok:KdOk kd):restW (kno kd)=enc kd (ks kd ok).one:=by cases kd <;> rfl
theorem bit_one (a k:Nat):Builtin.bitAnd ((a >>> k:Nat):Int) 1=if a.testBit k then 1 else 0:=by
  rw [show (1:Int)=((1:Nat):Int) from rfl,bitAnd_nat,Nat.testBit_eq_decide_div_mod_eq,Nat.and_one_is_mod,Nat.shiftRight_eq_div_pow]
  have:a / 2 ^ k % 2=0∨a / 2 ^ k % 2=1:=by omega
  rcases this with h | h <;> simp [h]
end Ws
namespace Ws
open PySem
open Builtin.Int (intBits)
theorem num_le {t b:Int} (h:0 < b):(Rat.divInt t b).num.natAbs≤t.natAbs:=by
  rw [Rat.num_divInt,Int.sign_eq_one_of_pos h,Int.one_mul]
  exact Int.natAbs_ediv_le_natAbs _ _
theorem den_le {t b:Int} (h:0 < b):(Rat.divInt t b).den≤b.natAbs:=by
  rw [Rat.den_divInt,if_neg (by omega)]
  exact Nat.div_le_self _ _
theorem sm_div {t b:Int} {B:Nat} (h:0 < b) (h1:intBits t≤B) (h2:intBits b≤B):Sm B (ofR (Rat.divInt t b)) :=
  ⟨intBits_le_of_natAbs (num_le h) h1,intBits_le_of_natAbs (by have:=den_le (t:=t) h; omega) h2⟩
theorem sm_addR {p q:Rat} {B C:Nat} (h1:Sm B (ofR p)) (h2:Sm C (ofR q)):Sm (B + C + 1) (ofR (p + q)):=by
  have e:p + q=Rat.divInt (p.num * q.den + q.num * p.den) (p.den * q.den):=by
    rw [← Rat.divInt_add_divInt _ _ (Int.ne_of_gt (den_pos p)) (Int.ne_of_gt (den_pos q)),Rat.num_divInt_den,Rat.num_divInt_den]
  rw [e]
  refine sm_div (Int.mul_pos (den_pos p) (den_pos q)) ?_ ?_
  · have:=intBits_add_le (intBits_mul_le h1.1 h2.2) (intBits_mul_le h2.1 h1.2)
    omega
  · have:=intBits_mul_le h1.2 h2.2
    omega
theorem sm_mulR {p q:Rat} {B C:Nat} (h1:Sm B (ofR p)) (h2:Sm C (ofR q)):Sm (B + C) (ofR (p * q)):=by
  have e:p * q=Rat.divInt (p.num * q.num) (p.den * q.den):=by
    rw [← Rat.divInt_mul_divInt,Rat.num_divInt_den,Rat.num_divInt_den]
  rw [e]
  exact sm_div (Int.mul_pos (den_pos p) (den_pos q)) (intBits_mul_le h1.1 h2.1) (intBits_mul_le h1.2 h2.2)
theorem sm_max {p q:Rat} {B C:Nat} (h1:Sm B (ofR p)) (h2:Sm C (ofR q)):Sm (B + C) (ofR (rmax p q)):=by
  unfold rmax
  split
  · exact h2.mono (by omega)
  · exact h1.mono (by omega)
theorem sm_nat {n m B:Nat} (h:n≤m) (hm:Sm B (.int (m:Int))):Sm B (.int (n:Int)):=intBits_le_of_natAbs (by omega) hm
theorem sm_lt {n B:Nat} (h:n < 2 ^ B):Sm B (.int (n:Int)):=bits_nat h
theorem lt_sm {n B:Nat} (h:Sm B (.int (n:Int))):n < 2 ^ B:=by have:=intBits_le_iff.mp h; simpa using this
theorem sm_add {kd:Kd} {ok:KdOk kd} {x y:Car kd} {B C:Nat} (h1:Sm B (enc kd x)) (h2:Sm C (enc kd y)):Sm (B + C + 1) (enc kd ((ks kd ok).add x y)):=by
  cases kd with
  | fewest =>
    rcases x with _ | i
    · cases y <;> exact h2.mono (by omega)
    · rcases y with _ | j
      · exact h1.mono (by omega)
      · exact (sm_nat (Nat.min_le_left i j) h1).mono (by omega)
  | widest =>
    by_cases c:x.1≤y.1
    · exact (sm_nat (show max x.1 y.1≤y.1 by omega) h2).mono (by omega)
    · exact (sm_nat (show max x.1 y.1≤x.1 by omega) h1).mono (by omega)
  | counted =>
    rcases x with _ | i
    · exact h1.mono (by omega)
    · rcases y with _ | j
      · exact h2.mono (by omega)
      · refine sm_lt ?_
        have:=lt_sm h1
        have:=lt_sm h2
        have e1:2 ^ B≤2 ^ (B + C):=Nat.pow_le_pow_right (by decide) (by omega)
        have e2:2 ^ C≤2 ^ (B + C):=Nat.pow_le_pow_right (by decide) (by omega)
        rw [Nat.pow_succ]; omega
  | likeliest=>exact (sm_max h1 h2).mono (by omega)
  | chances=>exact sm_addR h1 h2
  | musts =>
    rcases x with _ | i
    · cases y <;> exact h2.mono (by omega)
    · rcases y with _ | j
      · exact h1.mono (by omega)
      · exact (sm_nat Nat.and_le_left h1).mono (by omega)
  | rests m =>
    refine sm_lt ?_
    have l1:=lt_sm h1
    have l2:=lt_sm h2
    have e1:2 ^ B≤2 ^ (B + C + 1):=Nat.pow_le_pow_right (by decide) (by omega)
    have e2:2 ^ C≤2 ^ (B + C + 1):=Nat.pow_le_pow_right (by decide) (by omega)
    exact Nat.or_lt_two_pow (by omega) (by omega)
theorem sm_mul {kd:Kd} {ok:KdOk kd} {x y:Car kd} {B C:Nat} (h1:Sm B (enc kd x)) (h2:Sm C (enc kd y)):Sm (B + C + 12) (enc kd ((ks kd ok).mul x y)):=by
  cases kd with
  | fewest =>
    rcases x with _ | i
    · exact trivial
    · rcases y with _ | j
      · exact trivial
      · refine sm_lt ?_
        have:=lt_sm h1
        have:=lt_sm h2
        have e1:2 ^ B≤2 ^ (B + C):=Nat.pow_le_pow_right (by decide) (by omega)
        have e2:2 ^ C≤2 ^ (B + C):=Nat.pow_le_pow_right (by decide) (by omega)
        have e3:2 ^ (B + C + 1)≤2 ^ (B + C + 12):=Nat.pow_le_pow_right (by decide) (by omega)
        rw [Nat.pow_succ] at e3; omega
  | widest=>exact (sm_nat (show min x.1 y.1≤x.1 by omega) h1).mono (by omega)
  | counted =>
    rcases x with _ | i
    · rcases y with _ | _ | j
      · exact (show Sm 1 (.int (-1)) by decide).mono (by omega)
      · exact (show Sm 1 (.int 0) by decide).mono (by omega)
      · exact (show Sm 1 (.int (-1)) by decide).mono (by omega)
    · rcases y with _ | j
      · rcases i with _ | i
        · exact (show Sm 1 (.int 0) by decide).mono (by omega)
        · exact (show Sm 1 (.int (-1)) by decide).mono (by omega)
      · show Sm _ (enc .counted (oMul (some i) (some j)))
        rw [oMul_some]
        have:=intBits_mul_le h1 h2
        show intBits ((i * j:Nat):Int)≤_
        rw [Int.natCast_mul]; omega
  | likeliest=>exact (sm_mulR h1 h2).mono (by omega)
  | chances=>exact (sm_mulR h1 h2).mono (by omega)
  | musts =>
    rcases x with _ | i
    · exact trivial
    · rcases y with _ | j
      · exact trivial
      · refine sm_lt ?_
        have l1:=lt_sm h1
        have l2:=lt_sm h2
        have e1:2 ^ B≤2 ^ (B + C + 12):=Nat.pow_le_pow_right (by decide) (by omega)
        have e2:2 ^ C≤2 ^ (B + C + 12):=Nat.pow_le_pow_right (by decide) (by omega)
        exact Nat.or_lt_two_pow (by omega) (by omega)
  | rests m =>
    refine (sm_lt (B:=12) ?_).mono (by omega)
    exact Nat.lt_of_lt_of_le (behN_lt y.2) (Nat.pow_le_pow_right (by decide) ok.2)
theorem sm_one (kd:Kd) (ok:KdOk kd):Sm 30 (enc kd (ks kd ok).one):=by
  cases kd with
  | fewest=>exact (show Sm 30 (.int 0) by decide)
  | widest=>exact (show Sm 30 (.int 1000000000) by decide)
  | counted=>exact (show Sm 30 (.int 1) by decide)
  | likeliest=>exact (show Sm 30 (.pair 1 1) by decide)
  | chances=>exact (show Sm 30 (.pair 1 1) by decide)
  | musts=>exact (show Sm 30 (.int 0) by decide)
  | rests m=>exact (show Sm 1 (.int 1) by decide).mono (by decide)
theorem sm_zero (kd:Kd) (ok:KdOk kd):Sm 1 (enc kd (ks kd ok).zero):=by
  cases kd with
  | fewest=>exact (show Sm 1 (.non) by decide)
  | widest=>exact (show Sm 1 (.int 0) by decide)
  | counted=>exact (show Sm 1 (.int 0) by decide)
  | likeliest=>exact (show Sm 1 (.pair 0 1) by decide)
  | chances=>exact (show Sm 1 (.pair 0 1) by decide)
  | musts=>exact (show Sm 1 (.non) by decide)
  | rests m=>exact (show Sm 1 (.int 0) by decide)
theorem sm_shareW {t b:Int} {B:Nat} (h:0 < b) (h1:intBits t≤B) (h2:intBits b≤B):Sm B (shareW t b):=by
  rw [shareW_ofR h]; exact sm_div h h1 h2
theorem sm_worthW {which m cell:Int} (m1:1≤m) (m2:m≤12):Sm 110 (worthW which m cell):=by
  have p30:(10:Int) ^ 30 < 2 ^ 110:=by decide
  have b30:∀ c:Int,intBits (c % 10 ^ 30)≤110:=fun c=>bits_le (by
    have:=Int.emod_nonneg c (show (10:Int) ^ 30≠0 by decide)
    have:=Int.emod_lt_of_pos c (show (0:Int) < 10 ^ 30 by decide)
    have:(2:Nat) ^ 110=((2:Int) ^ 110).toNat:=by decide
    omega)
  have sm:∀ i:Int,-1≤i→i≤10 ^ 9→intBits i≤110:=fun i h1 h2=>bits_le (by
    have:(10:Int) ^ 9 < 2 ^ 110:=by decide
    have:(2:Nat) ^ 110=((2:Int) ^ 110).toNat:=by decide
    omega)
  unfold worthW
  split
  · unfold noneW; split
    · exact trivial
    · split <;> decide
  split
  · unfold restW; split
    · decide
    · split
      · decide
      · split <;> decide
  split
  · show intBits _≤_
    split
    · exact sm _ (by omega) (by omega)
    · exact b30 _
  split
  · show intBits _≤_
    split
    · exact sm _ (by omega) (by omega)
    · exact sm _ (by omega) (by omega)
  split
  · show intBits _≤_
    split
    · exact sm _ (by omega) (by omega)
    · exact b30 _
  split
  · have b1:0≤cell / 6 / 7 % 12:=Int.emod_nonneg _ (by decide)
    have b2:cell / 6 / 7 % 12 < 12:=Int.emod_lt_of_pos _ (by decide)
    have lt:=Int.emod_lt_of_pos (cell / 6) (show 0 < 1 + cell / 6 / 7 % 12 + 1 by omega)
    have nn:=Int.emod_nonneg (cell / 6) (show 1 + cell / 6 / 7 % 12 + 1≠0 by omega)
    exact sm_shareW (by omega) (sm _ (by omega) (by omega)) (sm _ (by omega) (by omega))
  split
  · exact sm_shareW (by omega) (sm _ (by omega) (by omega)) (sm _ (by omega) (by omega))
  split
  · show intBits _≤_
    split
    · exact sm _ (by omega) (by omega)
    · exact b30 _
  · have p:(0:Int) < 2 ^ m.toNat:=Int.pow_pos (by decide)
    have nn:=Int.emod_nonneg (cell / 6) (Int.ne_of_gt p)
    have lt:=Int.emod_lt_of_pos (cell / 6) p
    have le:(2:Int) ^ m.toNat≤2 ^ 12:=by
      rw [← pow_cast,← pow_cast]
      exact Int.ofNat_le.mpr (Nat.pow_le_pow_right (by decide) (by omega))
    have:(2:Int) ^ 12≤10 ^ 9:=by decide
    exact sm _ (by omega) (by omega)
end Ws
namespace Ws
open PySem
open Builtin.Int (intBits)
structure Road where
  f:Int
  t:Int
  w:Wd
  deriving DecidableEq
def toR:Wd→Rat
  | .pair a b=>Rat.divInt a b
  | _=>0
theorem toR_ofR (q:Rat):toR (ofR q)=q:=Rat.num_divInt_den q
theorem ofR_toR:∀ {w:Wd},isShare w=true→ofR (toR w)=w
  | .pair a b,h=>by
    obtain ⟨q,rfl,rfl⟩:=share_is h
    show ofR (Rat.divInt q.num q.den)=ofR q
    rw [Rat.num_divInt_den]
def shSum (ws:List Wd):Rat:=((ws.filter isShare).map toR).sum
def mayB:Kd→List Wd→Bool
  | .chances,ws=>decide (shSum ws≤1)
  | _,_=>true
def frm (p:Int) (rs:List Road):List Wd:=(rs.filter fun r=>decide (r.f=p)).map (·.w)
def endOk (n:Int) (r:Road):Bool:=decide (0≤r.f) && decide (r.f < n) && (decide (0≤r.t) && decide (r.t < n))
def numsOk (n:Int) (k:Nat):Bool:=decide (1≤n) && decide (n≤8) && decide (k≤64)
def startsOk (kd:Kd) (n:Int) (rs:List Road):Bool:=(List.range n.toNat).all fun p=>mayB kd (frm (p:Int) rs)
def worthsOk (kd:Kd) (rs:List Road):Bool:=rs.all fun r=>isWorth kd r.w
def netYes (kd:Kd) (n:Int) (rs:List Road):Bool:=numsOk n rs.length && (rs.all (endOk n) && startsOk kd n rs)
structure Good (kd:Kd) (most extra:Nat) (n:Nat) (rs:List Road):Prop where
  n1:1≤n
  n2:n≤most
  len:rs.length≤extra
  ends:rs.all (endOk n)=true
  worths:worthsOk kd rs=true
  sm:∀ r∈rs,Sm 200 r.w
  den:kd=.chances→∃ D:Int→Nat,∀ r∈rs,0 < D r.f∧D r.f < 2 ^ 24∧∃ k:Nat,toR r.w * (D r.f:Rat)=(k:Rat)
  starts:kd=.chances→∀ p:Int,shSum (frm p rs)≤1
theorem Good.yes {kd:Kd} {most extra n:Nat} {rs:List Road} (g:Good kd most extra n rs) (h8:most≤8) (h64:extra≤64):netYes kd n rs=true:=by
  have n1:=g.n1
  have n2:=g.n2
  have l:=g.len
  simp only [netYes,numsOk,Bool.and_eq_true,decide_eq_true_eq]
  refine ⟨⟨⟨by omega,by omega⟩,by omega⟩,g.ends,?_⟩
  simp only [startsOk,List.all_eq_true]
  intro p _
  cases kd <;> first | rfl | exact decide_eq_true (g.starts rfl p)
def shAll (ws:List Wd):Rat:=(ws.map toR).sum
theorem sum_mul (c:Rat):∀ l:List Rat,(l.map (· * c)).sum=l.sum * c
  | []=>by simp
  | x :: l=>by simp only [List.map_cons,List.sum_cons,sum_mul c l]; grind
def thinW (rs:List Road) (r:Road):Wd:=if 1 < shAll (frm r.f rs) then ofR (toR r.w * (shAll (frm r.f rs))⁻¹) else r.w
def thin (rs:List Road):List Road:=rs.map fun r=>{ r with w:=thinW rs r }
theorem frm_thin (p:Int) (rs:List Road):frm p (thin rs)=(rs.filter fun r=>decide (r.f=p)).map (thinW rs):=by
  unfold frm thin
  rw [List.filter_map,List.map_map]
  rfl
theorem sh_thin {p:Int} {rs:List Road} (hs:∀ r∈rs,isShare r.w=true):shSum (frm p (thin rs))≤1:=by
  have all:∀ r∈rs,isShare (thinW rs r)=true:=fun r hr=>by
    unfold thinW; split
    · exact ofR_share _
    · exact hs r hr
  rw [frm_thin]
  unfold shSum
  rw [List.filter_eq_self.mpr (fun w hw=>by
    obtain ⟨r,hr,rfl⟩:=List.mem_map.mp hw
    exact all r (List.mem_filter.mp hr).1),List.map_map]
  by_cases c:1 < shAll (frm p rs)
  · have e:(rs.filter fun r=>decide (r.f=p)).map (toR ∘ thinW rs)=((rs.filter fun r=>decide (r.f=p)).map fun r=>toR r.w).map (· * (shAll (frm p rs))⁻¹):=by
      rw [List.map_map]
      refine List.map_congr_left fun r hr=>?_
      have:r.f=p:=of_decide_eq_true (List.mem_filter.mp hr).2
      subst this
      show toR (thinW rs r)=toR r.w * _
      unfold thinW
      rw [if_pos c,toR_ofR]
    rw [e,sum_mul]
    have:((rs.filter fun r=>decide (r.f=p)).map fun r=>toR r.w).sum=shAll (frm p rs):=by
      unfold shAll frm
      rw [List.map_map]
      rfl
    rw [this,Rat.mul_inv_cancel _ (by grind)]
    exact Rat.le_refl
  · have e:(rs.filter fun r=>decide (r.f=p)).map (toR ∘ thinW rs)=(frm p rs).map toR:=by
      unfold frm
      rw [List.map_map]
      refine List.map_congr_left fun r hr=>?_
      have:r.f=p:=of_decide_eq_true (List.mem_filter.mp hr).2
      subst this
      show toR (thinW rs r)=toR r.w
      unfold thinW
      rw [if_neg c]
    rw [e]
    exact Rat.not_lt.mp c
end Ws
namespace Ws
open PySem
open Builtin.Int (intBits)
theorem rat_of_mul {q:Rat} {D k:Nat} (hD:0 < D) (h:q * (D:Rat)=(k:Rat)):q=Rat.divInt (k:Int) (D:Int):=by
  have z:(D:Rat)≠0:=by exact_mod_cast (Nat.ne_of_gt hD)
  rw [Rat.divInt_eq_div,Rat.div_def,Rat.intCast_natCast,Rat.intCast_natCast,← h,Rat.mul_assoc,Rat.mul_inv_cancel _ z,Rat.mul_one]
theorem sm_of_mul {q:Rat} {D k B:Nat} (hD:0 < D) (h:q * (D:Rat)=(k:Rat)) (h1:k < 2 ^ B) (h2:D < 2 ^ B):Sm B (ofR q):=by
  rw [rat_of_mul hD h]
  exact sm_div (by omega) (bits_nat h1) (bits_nat h2)
theorem draw4 {m cell:Int}:∃ k:Nat,toR (worthW 4 m cell) * (27720:Rat)=(k:Rat)∧k≤221760:=by
  have key:∀ t b:Int,0≤t→t≤8→1≤b→b≤12→∃ k:Nat,toR (shareW t b) * (27720:Rat)=(k:Rat)∧k≤221760:=by
    intro t b t0 t8 b1 b12
    rw [shareW_ofR (by omega),toR_ofR]
    have hb:∃ c:Nat,(c:Int) * b=27720∧c≤27720:=by
      have:b=1∨b=2∨b=3∨b=4∨b=5∨b=6∨b=7∨b=8∨b=9∨b=10∨b=11∨b=12:=by omega
      rcases this with rfl | rfl | rfl | rfl | rfl | rfl | rfl | rfl | rfl | rfl | rfl | rfl
      · exact ⟨27720,by decide,by decide⟩
      · exact ⟨13860,by decide,by decide⟩
      · exact ⟨9240,by decide,by decide⟩
      · exact ⟨6930,by decide,by decide⟩
      · exact ⟨5544,by decide,by decide⟩
      · exact ⟨4620,by decide,by decide⟩
      · exact ⟨3960,by decide,by decide⟩
      · exact ⟨3465,by decide,by decide⟩
      · exact ⟨3080,by decide,by decide⟩
      · exact ⟨2772,by decide,by decide⟩
      · exact ⟨2520,by decide,by decide⟩
      · exact ⟨2310,by decide,by decide⟩
    obtain ⟨c,hc,c2⟩:=hb
    obtain ⟨u,rfl⟩:∃ u:Nat,t=u:=⟨t.toNat,by omega⟩
    refine ⟨u * c,?_,?_⟩
    · have e:(27720:Rat)=(c:Rat) * ((b:Int):Rat):=by
        have:=congrArg (fun z:Int=>(z:Rat)) hc
        simp only [Rat.intCast_mul,Rat.intCast_natCast] at this
        rw [this]; rfl
      have z:((b:Int):Rat)≠0:=by exact_mod_cast (show b≠0 by omega)
      rw [e,Rat.divInt_eq_div,Rat.div_def,Rat.natCast_mul,Rat.intCast_natCast]
      generalize ((b:Int):Rat)=x at z
      generalize (u:Rat)=y
      generalize (c:Rat)=v
      have:x⁻¹ * x=1:=Rat.inv_mul_cancel _ z
      grind
    · have:u≤8:=by omega
      calc u * c≤8 * 27720:=Nat.mul_le_mul this c2
        _=221760:=by decide
  unfold worthW
  split
  · exact ⟨0,by decide +kernel,by decide⟩
  split
  · exact ⟨27720,by decide +kernel,by decide⟩
  simp only [show ¬ ((4:Int)=0) by decide,show ¬ ((4:Int)=1) by decide,show ¬ ((4:Int)=2) by decide,show ¬ ((4:Int)=3) by decide,if_false,if_true]
  have:=Int.emod_nonneg (cell / 6) (show (9:Int)≠0 by decide)
  have:=Int.emod_lt_of_pos (cell / 6) (show (0:Int) < 9 by decide)
  have:=Int.emod_nonneg (cell / 6 / 9) (show (12:Int)≠0 by decide)
  have:=Int.emod_lt_of_pos (cell / 6 / 9) (show (0:Int) < 12 by decide)
  exact key _ _ (by omega) (by omega) (by omega) (by omega)
theorem draws_sum {m:Int}:∀ ws:List Wd,(∀ x∈ws,∃ c,x=worthW 4 m c)→∃ W:Nat,shAll ws * (27720:Rat)=(W:Rat)∧W≤221760 * ws.length
  | [],_=>⟨0,by simp [shAll],by simp⟩
  | x :: ws,h=>by
    obtain ⟨W,e,l⟩:=draws_sum ws fun y hy=>h y (List.mem_cons_of_mem _ hy)
    obtain ⟨c,rfl⟩:=h x List.mem_cons_self
    obtain ⟨k,ek,lk⟩:=draw4 (m:=m) (cell:=c)
    refine ⟨k + W,?_,by rw [List.length_cons]; omega⟩
    unfold shAll at e ⊢
    rw [List.map_cons,List.sum_cons,Rat.natCast_add,← ek,← e]
    grind
theorem frm_len (p:Int) (rs:List Road):(frm p rs).length≤rs.length:=by
  unfold frm; rw [List.length_map]; exact List.length_filter_le _ _
theorem worth4_share {m c:Int} (hm:1≤m):isShare (worthW 4 m c)=true:=by
  have:=isWorth_worth (which:=4) (m:=m) (cell:=c) (by decide) (by decide) hm
  rw [show kdOf 4 m=.chances from rfl] at this
  revert this
  generalize worthW 4 m c=x
  cases x with
  | pair a b=>simp only [isWorth,Bool.and_eq_true]; exact fun h=>h.1
  | _=>intro h; simp [isWorth] at h
theorem num_nonneg_share {q:Rat} (h:0≤q):isWorth .chances (ofR q)=true:=isWorth_enc (kd:=.chances) ⟨q,h⟩
theorem toR_nonneg:∀ {w:Wd},isWorth .chances w=true→0≤toR w
  | .pair a b,h=>by
    simp only [isWorth,Bool.and_eq_true,decide_eq_true_eq] at h
    obtain ⟨q,rfl,rfl⟩:=share_is h.1
    show 0≤Rat.divInt q.num q.den
    rw [Rat.num_divInt_den]
    exact Rat.num_nonneg.mp h.2
theorem sum_nonneg:∀ l:List Rat,(∀ x∈l,0≤x)→0≤l.sum
  | [],_=>by simp
  | x :: l,h=>by
    rw [List.sum_cons]
    have:=sum_nonneg l fun y hy=>h y (List.mem_cons_of_mem _ hy)
    have:=h x List.mem_cons_self
    grind
theorem drawn_good {which m:Int} {most extra n:Nat} {rs:List Road} (h0:0≤which) (h7:which < 7) (m1:1≤m) (m2:m≤12) (n1:1≤n) (n2:n≤most) (len:rs.length≤extra) (hx:extra≤64) (ends:rs.all (endOk n)=true)
    (hw:∀ r∈rs,∃ c,r.w=worthW which m c):Good (kdOf which m) most extra n (if which=4 then thin rs else rs):=by
  by_cases h4:which=4
  · subst h4
    rw [if_pos rfl]
    have sh:∀ r∈rs,isShare r.w=true:=fun r hr=>by obtain ⟨c,e⟩:=hw r hr; rw [e]; exact worth4_share m1
    have W:∀ p,∃ W:Nat,shAll (frm p rs) * (27720:Rat)=(W:Rat)∧W < 2 ^ 24:=fun p=>by
      obtain ⟨W,e,l⟩:=draws_sum (m:=m) (frm p rs) fun x hx=>by
        obtain ⟨r,hr,rfl⟩:=List.mem_map.mp hx
        exact hw r (List.mem_filter.mp hr).1
      refine ⟨W,e,Nat.lt_of_le_of_lt l ?_⟩
      have:=frm_len p rs
      calc 221760 * (frm p rs).length≤221760 * 64:=Nat.mul_le_mul_left _ (by omega)
        _ < 2 ^ 24:=by decide
    have wt:∀ r∈rs,isWorth .chances (thinW rs r)=true∧∃ D:Nat,(∃ k:Nat,toR (thinW rs r) * (D:Rat)=(k:Rat)∧k < 2 ^ 24)∧(if 1 < shAll (frm r.f rs) then shAll (frm r.f rs) * 27720=(D:Rat) else D=27720)∧0 < D∧D < 2 ^ 24:=fun r hr=>by
      obtain ⟨c,e⟩:=hw r hr
      obtain ⟨k,ek,lk⟩:=draw4 (m:=m) (cell:=c)
      have iw:isWorth .chances r.w=true:=by rw [e]; exact isWorth_worth (which:=4) (by decide) (by decide) m1
      have lk:k < 2 ^ 24:=Nat.lt_of_le_of_lt lk (by decide)
      unfold thinW
      by_cases c1:1 < shAll (frm r.f rs)
      · obtain ⟨W,eW,lW⟩:=W r.f
        rw [if_pos c1]
        have pos:0 < shAll (frm r.f rs):=by grind
        have ipos:0≤(shAll (frm r.f rs))⁻¹:=by
          exact Rat.le_of_lt (Rat.inv_pos.mpr pos)
        refine ⟨num_nonneg_share (Rat.mul_nonneg (toR_nonneg iw) ipos),W,⟨k,?_,lk⟩,by rw [if_pos c1]; exact eW,?_,lW⟩
        · rw [toR_ofR,← eW,← ek,e]
          have z:shAll (frm r.f rs)≠0:=by grind
          have:(shAll (frm r.f rs))⁻¹ * shAll (frm r.f rs)=1:=Rat.inv_mul_cancel _ z
          generalize shAll (frm r.f rs)=x at this
          grind
        · rcases Nat.eq_zero_or_pos W with z | z
          · subst z
            exfalso
            have:shAll (frm r.f rs) * 27720=0:=eW
            grind
          · exact z
      · rw [if_neg c1]
        exact ⟨iw,27720,⟨k,by rw [e]; exact ek,lk⟩,by rw [if_neg c1],by decide,by decide⟩
    refine ⟨n1,n2,by unfold thin; rw [List.length_map]; exact len,?_,?_,fun r0 hr0=>?_,fun _=>?_,fun _ p=>sh_thin sh⟩
    · unfold thin
      rw [List.all_map]
      exact ends
    · unfold worthsOk thin
      rw [List.all_map,List.all_eq_true]
      exact fun r hr=>(wt r hr).1
    · obtain ⟨r,hr,rfl⟩:=List.mem_map.mp hr0
      obtain ⟨iw,D,⟨k,ek,lk⟩,_,D0,D1⟩:=wt r hr
      have si:isShare (thinW rs r)=true:=by
        unfold thinW; split
        · exact ofR_share _
        · exact sh r hr
      show Sm 200 (thinW rs r)
      rw [← ofR_toR si]
      exact (sm_of_mul D0 ek lk D1).mono (by decide)
    · refine ⟨fun p=>if 1 < shAll (frm p rs) then (W p).choose else 27720,fun r0 hr0=>?_⟩
      obtain ⟨r,hr,rfl⟩:=List.mem_map.mp hr0
      obtain ⟨iw,D,⟨k,ek,lk⟩,hD,D0,D1⟩:=wt r hr
      have:(if 1 < shAll (frm r.f rs) then (W r.f).choose else 27720)=D:=by
        by_cases c1:1 < shAll (frm r.f rs)
        · rw [if_pos c1] at hD ⊢
          have:=hD.symm.trans (W r.f).choose_spec.1
          exact_mod_cast this.symm
        · rw [if_neg c1] at hD ⊢
          exact hD.symm
      refine ⟨?_,?_,k,?_⟩
      · show 0 < (if 1 < shAll (frm r.f rs) then (W r.f).choose else 27720)
        rw [this]; exact D0
      · show (if 1 < shAll (frm r.f rs) then (W r.f).choose else 27720) < 2 ^ 24
        rw [this]; exact D1
      · show toR (thinW rs r) * ((if 1 < shAll (frm r.f rs) then (W r.f).choose else 27720:Nat):Rat)=(k:Rat)
        rw [this]; exact ek
  · rw [if_neg h4]
    have nc:kdOf which m≠.chances:=fun e=>h4 (by have:=kno_kdOf (m:=m) h0 h7; rw [e] at this; exact this.symm)
    refine ⟨n1,n2,len,ends,?_,fun r hr=>?_,fun e=>absurd e nc,fun e=>absurd e nc⟩
    · unfold worthsOk
      rw [List.all_eq_true]
      intro r hr
      obtain ⟨c,e⟩:=hw r hr
      rw [e]
      exact isWorth_worth h0 h7 m1
    · obtain ⟨c,e⟩:=hw r hr
      rw [e]
      exact (sm_worthW m1 m2).mono (by decide)
end Ws
namespace Ws
theorem kno_lo (kd:Kd):0≤kno kd:=by cases kd <;> simp [kno]
theorem kno_hi (kd:Kd):kno kd < 7:=by cases kd <;> simp [kno]
theorem good_sm {kd:Kd} {most extra n:Nat} {rs:List Road} (G:Good kd most extra n rs):∀ r∈rs,Sm 4000 r.w:=fun r hr=>(G.sm r hr).mono (by decide)
end Ws
namespace Ws
end Ws
namespace Ws
open PySem
structure Edge (S:Type) where
  f:Nat
  t:Nat
  c:S
def Edge.road (kd:Kd) (e:Edge (Car kd)):Road:=⟨e.f,e.t,enc kd e.c⟩
theorem edges_of {kd:Kd} {n:Nat}:∀ {rs:List Road},rs.all (endOk n)=true→worthsOk kd rs=true→∃ es:List (Edge (Car kd)),rs=es.map (Edge.road kd)∧∀ e∈es,e.f < n∧e.t < n
  | [],_,_=>⟨[],rfl,fun _ h=>nomatch h⟩
  | r :: rs,h1,h2=>by
    rw [List.all_cons,Bool.and_eq_true] at h1
    unfold worthsOk at h2
    rw [List.all_cons,Bool.and_eq_true] at h2
    obtain ⟨es,rfl,he⟩:=edges_of h1.2 h2.2
    obtain ⟨x,hx⟩:=enc_surj h2.1
    have h:=h1.1
    simp only [endOk,Bool.and_eq_true,decide_eq_true_eq] at h
    refine ⟨⟨r.f.toNat,r.t.toNat,x⟩ :: es,?_,fun e he'=>?_⟩
    · rw [List.map_cons]
      congr 1
      obtain ⟨f,t,w⟩:=r
      simp only [Edge.road] at *
      rw [← hx,show ((f.toNat:Nat):Int)=f by omega,show ((t.toNat:Nat):Int)=t by omega]
    · rcases List.mem_cons.mp he' with rfl | he'
      · exact ⟨by show r.f.toNat < n; omega,by show r.t.toNat < n; omega⟩
      · exact he e he'
structure Graph (kd:Kd) (n:Nat) (es:List (Edge (Car kd))):Prop where
  nb:n≤8
  ends:∀ e∈es,e.f < n∧e.t < n
  sm:∀ e∈es,Sm 200 (enc kd e.c)
  den:kd=.chances→∃ L:Nat,0 < L∧L < 2 ^ 192∧∀ e∈es,∃ k:Nat,toR (enc kd e.c) * (L:Rat)=(k:Rat)
  sub:kd=.chances→∀ p:Int,shSum (frm p (es.map (Edge.road kd)))≤1
def prodTo (f:Nat→Nat):Nat→Nat
  | 0=>1
  | n + 1=>prodTo f n * f n
theorem prodTo_pos {f:Nat→Nat} (h:∀ i,0 < f i):∀ n,0 < prodTo f n
  | 0=>Nat.one_pos
  | n + 1=>Nat.mul_pos (prodTo_pos h n) (h n)
theorem prodTo_lt {f:Nat→Nat} {B:Nat} (h:∀ i,f i < 2 ^ B):∀ n,prodTo f n≤2 ^ (B * n)
  | 0=>by simp [prodTo]
  | n + 1=>by
    rw [Nat.mul_succ,Nat.pow_add]
    exact Nat.mul_le_mul (prodTo_lt h n) (Nat.le_of_lt (h n))
theorem prodTo_dvd {f:Nat→Nat}:∀ {n i:Nat},i < n→f i ∣ prodTo f n
  | n + 1,i,h=>by
    by_cases e:i=n
    · subst e; exact Nat.dvd_mul_left _ _
    · exact Nat.dvd_trans (prodTo_dvd (show i < n by omega)) (Nat.dvd_mul_right _ _)
theorem Good.graph {kd:Kd} {most extra n:Nat} {rs:List Road} (G:Good kd most extra n rs) (h8:most≤8):∃ es:List (Edge (Car kd)),rs=es.map (Edge.road kd)∧Graph kd n es:=by
  obtain ⟨es,rfl,he⟩:=edges_of G.ends G.worths
  refine ⟨es,rfl,Nat.le_trans G.n2 h8,he,fun e h=>G.sm _ (List.mem_map.mpr ⟨e,h,rfl⟩),fun hc=>?_,fun hc p=>G.starts hc p⟩
  obtain ⟨D,hD⟩:=G.den hc
  have n8:n≤8:=Nat.le_trans G.n2 h8
  let f:Nat→Nat:=fun i=>if 0 < D i∧D i < 2 ^ 24 then D i else 1
  have f0:∀ i,0 < f i:=fun i=>by show 0 < (if _ then _ else _); split <;> omega
  have f1:∀ i,f i < 2 ^ 24:=fun i=>by
    show (if _ then _ else _) < _
    split
    · rename_i h; exact h.2
    · decide
  have lt:prodTo f n < 2 ^ 192 * 1 + 1:=by
    have:=prodTo_lt f1 n
    have:2 ^ (24 * n)≤2 ^ 192:=Nat.pow_le_pow_right (by decide) (by omega)
    omega
  by_cases top:prodTo f n=2 ^ 192
  · exfalso
    have:prodTo f n < 2 ^ 192:=by
      cases n with
      | zero=>exact absurd G.n1 (by decide)
      | succ k =>
        show prodTo f k * f k < _
        have a1:=prodTo_lt f1 k
        have a2:2 ^ (24 * k)≤2 ^ 168:=Nat.pow_le_pow_right (by decide) (by omega)
        calc prodTo f k * f k≤2 ^ 168 * f k:=Nat.mul_le_mul_right _ (by omega)
          _ < 2 ^ 168 * 2 ^ 24:=Nat.mul_lt_mul_of_pos_left (f1 k) (Nat.two_pow_pos _)
          _=2 ^ 192:=by rw [← Nat.pow_add]
    omega
  · refine ⟨prodTo f n,prodTo_pos f0 n,by omega,fun e he'=>?_⟩
    obtain ⟨d0,d1,k,ek⟩:=hD _ (List.mem_map.mpr ⟨e,he',rfl⟩)
    have ef:f e.f=D (e.f:Int):=by show (if _ then _ else _)=_; exact if_pos ⟨d0,d1⟩
    obtain ⟨c,hc⟩:=prodTo_dvd (f:=f) (he e he').1
    refine ⟨k * c,?_⟩
    rw [hc,ef,Rat.natCast_mul,Rat.natCast_mul,← ek,Rat.mul_assoc]
    rfl
def walkE {S:Type} (M:KSR S) (es:List (Edge S)):Nat→S→List Int→Option (Nat × S)
  | h,x,[]=>some (h,x)
  | h,x,k :: row=>if k < 0∨(es.length:Int)≤k then none else match es[k.toNat]? with
    | none=>none
    | some e=>if e.f=h then walkE M es e.t (M.mul x e.c) row else none
end Ws
namespace Ws
structure Walked {S:Type} (M:KSR S) (es:List (Edge S)) (p:Nat) (row ss:List Nat) (x:S):Prop where
  len:ss.length=row.length + 1
  at_:∀ j,j≤row.length→∃ h y,ss[j]?=some h∧walkE M es p M.one ((row.take j).map fun k:Nat=>(k:Int))=some (h,y)
  end_:∃ h,ss[row.length]?=some h∧walkE M es p M.one (row.map fun k:Nat=>(k:Int))=some (h,x)
end Ws
namespace Ws
end Ws
namespace Ws
namespace KSR
variable {S : Type} (M : KSR S)
def sum (l:List S):S:=l.foldr M.add M.zero
theorem sum_app:∀ l r:List S,M.sum (l ++ r)=M.add (M.sum l) (M.sum r)
  | [],r=>(M.zero_add _).symm
  | x :: l,r=>by
    show M.add x (M.sum (l ++ r))=_
    rw [sum_app l r,← M.add_assoc]; rfl
theorem sum_snoc (l:List S) (x:S):M.sum (l ++ [x])=M.add (M.sum l) x:=by
  rw [M.sum_app]
  show M.add _ (M.add x M.zero)=_
  rw [M.add_zero]
theorem sum_mul (c:S):∀ l:List S,M.mul (M.sum l) c=M.sum (l.map fun x=>M.mul x c)
  | []=>M.zero_mul c
  | x :: l=>by
    show M.mul (M.add x (M.sum l)) c=M.add (M.mul x c) (M.sum (l.map _))
    rw [M.add_mul,sum_mul c l]
theorem add4 (a b c d:S):M.add (M.add a b) (M.add c d)=M.add (M.add a c) (M.add b d):=by
  rw [M.add_assoc,M.add_assoc,← M.add_assoc b,M.add_comm b c,M.add_assoc c]
def when (p:Prop) [Decidable p] (x:S):S:=if p then x else M.zero
end KSR
section
variable {S : Type} (M : KSR S) (es : List (Edge S))
def stepV (f:Nat→S) (t:Nat):S:=M.sum (es.map fun e=>M.when (e.t=t) (M.mul (f e.f) e.c))
def unitV (p:Nat):Nat→S:=fun i=>M.when (i=p) M.one
def stepsV (p:Nat):Nat→Nat→S
  | 0=>unitV M p
  | k + 1=>stepV M es (stepsV p k)
end
end Ws
namespace Ws
open PySem
theorem sm_add2 {kd:Kd} {ok:KdOk kd} (hc:kd≠.chances) {x y:Car kd} {B:Nat} (h1:Sm B (enc kd x)) (h2:Sm B (enc kd y)):Sm (B + 1) (enc kd ((ks kd ok).add x y)):=by
  cases kd with
  | fewest =>
    rcases x with _ | i
    · cases y <;> exact h2.mono (by omega)
    · rcases y with _ | j
      · exact h1.mono (by omega)
      · exact (sm_nat (Nat.min_le_left i j) h1).mono (by omega)
  | widest =>
    by_cases c:x.1≤y.1
    · exact (sm_nat (show max x.1 y.1≤y.1 by omega) h2).mono (by omega)
    · exact (sm_nat (show max x.1 y.1≤x.1 by omega) h1).mono (by omega)
  | counted =>
    rcases x with _ | i
    · exact h1.mono (by omega)
    · rcases y with _ | j
      · exact h2.mono (by omega)
      · refine sm_lt ?_
        have:=lt_sm h1
        have:=lt_sm h2
        rw [Nat.pow_succ]; omega
  | likeliest =>
    show Sm (B + 1) (ofR (rmax x.1 y.1))
    unfold rmax
    split
    · exact h2.mono (by omega)
    · exact h1.mono (by omega)
  | chances=>exact absurd rfl hc
  | musts =>
    rcases x with _ | i
    · cases y <;> exact h2.mono (by omega)
    · rcases y with _ | j
      · exact h1.mono (by omega)
      · exact (sm_nat Nat.and_le_left h1).mono (by omega)
  | rests m =>
    refine (sm_lt ?_).mono (Nat.le_succ B)
    exact Nat.or_lt_two_pow (lt_sm h1) (lt_sm h2)
def Over (D:Nat) (e:Edge Cha) (q:Edge (Option Nat)):Prop:=e.f=q.f∧e.t=q.t∧∃ k:Nat,q.c=some k∧e.c.1 * (D:Rat)=(k:Rat)
theorem over_step {D Dk:Nat} {f:Nat→Cha} {g:Nat→Option Nat} (h:∀ i,∃ N:Nat,g i=some N∧(f i).1 * (Dk:Rat)=(N:Rat)) (t:Nat) :
    ∀ {es:List (Edge Cha)} {ps:List (Edge (Option Nat))},PySem.Paired (Over D) es ps→∃ N:Nat,stepV ksCounted ps g t=some N∧(stepV ksChances es f t).1 * ((Dk * D:Nat):Rat)=(N:Rat)
  | _,_,.nil=>⟨0,rfl,by show (0:Rat) * _=_; rw [Rat.zero_mul]; rfl⟩
  | e :: es,q :: ps,.cons ⟨e1,e2,k,e3,e4⟩ r=>by
    obtain ⟨N,n1,n2⟩:=over_step (D:=D) h t r
    obtain ⟨A,a1,a2⟩:=h e.f
    have hc:∃ B:Nat,ksCounted.when (q.t=t) (ksCounted.mul (g q.f) q.c)=some B∧(ksChances.when (e.t=t) (ksChances.mul (f e.f) e.c)).1 * ((Dk * D:Nat):Rat)=(B:Rat):=by
      rw [← e1,← e2,e3,a1]
      unfold KSR.when
      by_cases c:e.t=t
      · rw [if_pos c,if_pos c]
        refine ⟨A * k,oMul_some A k,?_⟩
        show (f e.f).1 * e.c.1 * _=_
        rw [Rat.natCast_mul,Rat.natCast_mul,← a2,← e4]
        generalize (f e.f).1=u
        generalize e.c.1=v
        generalize (Dk:Rat)=w1
        generalize (D:Rat)=w2
        grind
      · rw [if_neg c,if_neg c]
        exact ⟨0,rfl,by show (0:Rat) * _=_; rw [Rat.zero_mul]; rfl⟩
    obtain ⟨B,b1,b2⟩:=hc
    refine ⟨B + N,?_,?_⟩
    · show ksCounted.add (ksCounted.when (q.t=t) (ksCounted.mul (g q.f) q.c)) (stepV ksCounted ps g t)=_
      rw [b1,n1]; rfl
    · show ((ksChances.when (e.t=t) (ksChances.mul (f e.f) e.c)).1 + (stepV ksChances es f t).1) * _=_
      rw [Rat.natCast_add,← b2,← n2]
      generalize (ksChances.when (e.t=t) (ksChances.mul (f e.f) e.c)).1=u
      generalize (stepV ksChances es f t).1=v
      generalize ((Dk * D:Nat):Rat)=w1
      grind
theorem over_steps {D:Nat} {es:List (Edge Cha)} {ps:List (Edge (Option Nat))} (r:PySem.Paired (Over D) es ps) (p:Nat):∀ k i,∃ N:Nat,stepsV ksCounted ps p k i=some N∧(stepsV ksChances es p k i).1 * ((D ^ k:Nat):Rat)=(N:Rat)
  | 0,i=>by
    show ∃ N:Nat,ksCounted.when (i=p) ksCounted.one=some N∧(ksChances.when (i=p) ksChances.one).1 * _=_
    unfold KSR.when
    by_cases c:i=p
    · rw [if_pos c,if_pos c]; exact ⟨1,rfl,by show (1:Rat) * _=_; rw [Rat.one_mul,Nat.pow_zero]⟩
    · rw [if_neg c,if_neg c]; exact ⟨0,rfl,by show (0:Rat) * _=_; rw [Rat.zero_mul]; rfl⟩
  | k + 1,i=>by
    rw [Nat.pow_succ]
    exact over_step (fun j=>over_steps r p k j) i r
theorem rat_mul_den (p:Rat):p * (p.den:Rat)=(p.num:Rat):=by
  have z:(p.den:Rat)≠0:=by intro z; have:=p.den_nz; exact this (by exact_mod_cast z)
  have e:p=(p.num:Rat) / ((p.den:Int):Rat):=by
    conv=>lhs; rw [← Rat.num_divInt_den p]
    rw [Rat.divInt_eq_div]
  rw [Rat.intCast_natCast] at e
  rw [Rat.div_def] at e
  have:=congrArg (fun x=>x * (p.den:Rat)) e
  refine this.trans ?_
  show (p.num:Rat) * (p.den:Rat)⁻¹ * (p.den:Rat)=p.num
  rw [Rat.mul_assoc,Rat.inv_mul_cancel _ z,Rat.mul_one]
def OverP (D:Nat) (es:List (Edge (Car .chances))) (ps:List (Edge (Car .counted))):Prop:=PySem.Paired (Over D) es ps
theorem OverP.nil (D:Nat):OverP D [] []:=PySem.Paired.nil
theorem OverP.snoc {D:Nat} {es:List (Edge (Car .chances))} {ps:List (Edge (Car .counted))} {e:Edge (Car .chances)} {k:Nat} (h:OverP D es ps) (e4:e.c.1 * (D:Rat)=(k:Rat)):OverP D (es ++ [e]) (ps ++ [⟨e.f,e.t,some k⟩]):=PySem.Paired.snoc h ⟨rfl,rfl,k,rfl,e4⟩
end Ws
namespace Ws
open PySem
theorem sm_step {kd : Kd} {ok : KdOk kd} (hc : kd ≠ .chances) {es : List (Edge (Car kd))} {R B : Nat} (hR : ∀ e ∈ es, Sm R (enc kd e.c)) {f : Nat → Car kd} (hf : ∀ e ∈ es, Sm B (enc kd (f e.f))) (t : Nat) :
    Sm (B + R + 13 + es.length) (enc kd (stepV (ks kd ok) es f t)) := by
  induction es with
  | nil => exact (sm_zero kd ok).mono (by have : 1 ≤ 13 := by decide
                                          omega)
  | cons e es ih =>
    have ih := ih (fun x hx => hR x (List.mem_cons_of_mem _ hx)) (fun x hx => hf x (List.mem_cons_of_mem _ hx))
    have a := sm_mul (ok := ok) (hf e List.mem_cons_self) (hR e List.mem_cons_self)
    show Sm _ (enc kd ((ks kd ok).add ((ks kd ok).when (e.t = t) ((ks kd ok).mul (f e.f) e.c)) (stepV (ks kd ok) es f t)))
    have a2 : Sm (B + R + 13 + es.length) (enc kd ((ks kd ok).when (e.t = t) ((ks kd ok).mul (f e.f) e.c))) := by
      unfold KSR.when
      split
      · exact a.mono (by omega)
      · exact (sm_zero kd ok).mono (by omega)
    exact (sm_add2 hc a2 ih).mono (by rw [List.length_cons]; omega)
theorem sm_steps {kd:Kd} {ok:KdOk kd} (hc:kd≠.chances) {es:List (Edge (Car kd))} {R:Nat} (hR:∀ e∈es,Sm R (enc kd e.c)) (hl:es.length≤64) (p:Nat):∀ k i,Sm (k * (R + 80) + 30) (enc kd (stepsV (ks kd ok) es p k i))
  | 0,i=>by
    show Sm _ (enc kd ((ks kd ok).when (i=p) (ks kd ok).one))
    unfold KSR.when
    split
    · exact (sm_one kd ok).mono (by omega)
    · exact (sm_zero kd ok).mono (by omega)
  | k + 1,i=>(sm_step hc hR (fun e _=>sm_steps hc hR hl p k e.f) i).mono (by rw [Nat.succ_mul]; omega)
structure Fits (kd:Kd) (ok:KdOk kd) (es:List (Edge (Car kd))) (p k B:Nat):Prop where
  at_:∀ i,i≤k→∀ t,Sm B (enc kd (stepsV (ks kd ok) es p i t))
  mul:∀ i,i < k→∀ e∈es,Sm B (enc kd ((ks kd ok).mul (stepsV (ks kd ok) es p i e.f) e.c))
  sum:∀ i,i < k→∀ j t,Sm B (enc kd (stepV (ks kd ok) (es.take j) (stepsV (ks kd ok) es p i) t))
theorem Fits.mono {kd:Kd} {ok:KdOk kd} {es:List (Edge (Car kd))} {p k B C:Nat} (F:Fits kd ok es p k B) (h:B≤C):Fits kd ok es p k C:=⟨fun i hi t=>(F.at_ i hi t).mono h,fun i hi e he=>(F.mul i hi e he).mono h,fun i hi j t=>(F.sum i hi j t).mono h⟩
theorem fits_plain {kd:Kd} {ok:KdOk kd} (hc:kd≠.chances) {es:List (Edge (Car kd))} {R:Nat} (hR:∀ e∈es,Sm R (enc kd e.c)) (hl:es.length≤64) (p k:Nat):Fits kd ok es p k (k * (R + 80) + 30 + R):=by
  have mono:∀ i,i≤k→i * (R + 80)≤k * (R + 80):=fun i hi=>Nat.mul_le_mul_right _ hi
  refine ⟨fun i hi t=>(sm_steps hc hR hl p i t).mono (by have:=mono i hi; omega),fun i hi e he=>?_,fun i hi j t=>?_⟩
  · refine (sm_mul (sm_steps hc hR hl p i e.f) (hR e he)).mono ?_
    have:=mono (i + 1) hi
    rw [Nat.succ_mul] at this; omega
  · refine (sm_step hc (es:=es.take j) (fun e he=>hR e (List.mem_of_mem_take he)) (fun e _=>sm_steps hc hR hl p i e.f) t).mono ?_
    have:=mono (i + 1) hi
    have l2:(es.take j).length≤64:=by rw [List.length_take]; omega
    rw [Nat.succ_mul] at this; omega
theorem overP_of {L:Nat}:∀ {es:List (Edge (Car .chances))},(∀ e∈es,∃ k:Nat,toR (enc .chances e.c) * (L:Rat)=(k:Rat))→∃ ps:List (Edge (Car .counted)),PySem.Paired (Over L) es ps∧∀ q∈ps,∃ e∈es,∃ k:Nat,q.c=(some k:Option Nat)∧e.c.1 * (L:Rat)=(k:Rat)
  | [],_=>⟨[],.nil,fun q hq=>nomatch hq⟩
  | e :: es,h=>by
    obtain ⟨ps,hp,hq⟩:=overP_of fun x hx=>h x (List.mem_cons_of_mem _ hx)
    obtain ⟨k,ek⟩:=h e List.mem_cons_self
    have ek:e.c.1 * (L:Rat)=(k:Rat):=by
      have:toR (enc .chances e.c)=e.c.1:=toR_ofR _
      rw [this] at ek; exact ek
    refine ⟨⟨e.f,e.t,(some k:Option Nat)⟩ :: ps,.cons ⟨rfl,rfl,k,rfl,ek⟩ hp,fun q hq'=>?_⟩
    rcases List.mem_cons.mp hq' with rfl | hq'
    · exact ⟨e,List.mem_cons_self,k,rfl,ek⟩
    · obtain ⟨e',he',r⟩:=hq q hq'
      exact ⟨e',List.mem_cons_of_mem _ he',r⟩
theorem nat_of_mul {q:Rat} {L k B C:Nat} (h:q * (L:Rat)=(k:Rat)) (hq:Sm B (ofR q)) (hL:L < 2 ^ C) (h0:0≤q):k < 2 ^ (B + C):=by
  have n0:0≤q.num:=Rat.num_nonneg.mpr h0
  have hb:q.num.natAbs < 2 ^ B:=intBits_le_iff.mp hq.1
  have e:(k:Rat) * (q.den:Rat)=((q.num.toNat * L:Nat):Rat):=by
    rw [Rat.natCast_mul,show ((q.num.toNat:Nat):Rat)=((q.num:Int):Rat) by rw [← Rat.intCast_natCast,Int.toNat_of_nonneg n0],← rat_mul_den q,← h]
    generalize (q.den:Rat)=x
    generalize (L:Rat)=y
    grind
  have e:k * q.den=q.num.toNat * L:=by
    rw [← Rat.natCast_mul] at e
    exact_mod_cast e
  have d:=den_pos q
  have:k≤k * q.den:=Nat.le_mul_of_pos_right _ (by omega)
  calc k≤q.num.toNat * L:=by omega
    _ < 2 ^ B * 2 ^ C:=Nat.mul_lt_mul'' (by omega) hL
    _=2 ^ (B + C):=by rw [← Nat.pow_add]
theorem paired_take' {α β:Type} {F:α→β→Prop}:∀ {xs:List α} {ys:List β} (k:Nat),PySem.Paired F xs ys→PySem.Paired F (xs.take k) (ys.take k)
  | _,_,0,_=>by rw [List.take_zero,List.take_zero]; exact .nil
  | [],[],_ + 1,.nil=>.nil
  | _ :: _,_ :: _,k + 1,.cons h t=>.cons h (paired_take' k t)
theorem sm_frac {q:Rat} {L N i B:Nat} (L0:0 < L) (L1:L < 2 ^ 192) (h:q * ((L ^ i:Nat):Rat)=(N:Rat)) (hN:Sm B (.int (N:Int))):Sm (B + 192 * i + 1) (ofR q):=by
  have b:=lt_sm hN
  refine sm_of_mul (k:=N) (D:=L ^ i) (Nat.pow_pos L0) h (Nat.lt_of_lt_of_le b (Nat.pow_le_pow_right (by decide) (by omega))) ?_
  have p1:L ^ i≤(2 ^ 192) ^ i:=Nat.pow_le_pow_left (Nat.le_of_lt L1) i
  rw [← Nat.pow_mul] at p1
  have:2 ^ (192 * i) < 2 ^ (B + 192 * i + 1):=Nat.pow_lt_pow_right (by decide) (by omega)
  omega
theorem fits_chances {es:List (Edge (Car .chances))} {n:Nat} (G:Graph .chances n es) (hl:es.length≤64) (p k:Nat):Fits .chances trivial es p k (k * 664 + 900):=by
  obtain ⟨L,L0,L1,hL⟩:=G.den rfl
  obtain ⟨ps,hov,hps⟩:=overP_of hL
  have pl:ps.length≤64:=Nat.le_trans (Nat.le_of_eq hov.length.symm) hl
  have hR:∀ q∈ps,Sm 392 (enc .counted q.c):=fun q hq=>by
    obtain ⟨e,he,j,e1,e2⟩:=hps q hq
    rw [e1]
    exact sm_lt (nat_of_mul (B:=200) (C:=192) e2 (G.sm e he) L1 e.c.2)
  have F:=fits_plain (kd:=.counted) (ok:=trivial) (by intro z; cases z) hR pl p k
  have st:∀ i t,∃ N:Nat,stepsV ksCounted ps p i t=some N∧(stepsV ksChances es p i t).1 * ((L ^ i:Nat):Rat)=(N:Rat):=over_steps hov p
  have b1:∀ i,i≤k→192 * i≤192 * k:=fun i hi=>Nat.mul_le_mul_left _ hi
  refine ⟨fun i hi t=>?_,fun i hi e he=>?_,fun i hi j t=>?_⟩
  · obtain ⟨N,n1,n2⟩:=st i t
    have a:=F.at_ i hi t
    have e:stepsV (ks .counted trivial) ps p i t=(some N:Option Nat):=n1
    rw [e] at a
    exact (sm_frac L0 L1 n2 a).mono (by have:=b1 i hi; omega)
  · obtain ⟨N,n1,n2⟩:=st i e.f
    have a:=F.at_ i (by omega) e.f
    have e':stepsV (ks .counted trivial) ps p i e.f=(some N:Option Nat):=n1
    rw [e'] at a
    have:=sm_mulR (sm_frac L0 L1 n2 a) (G.sm e he)
    exact Sm.mono (by have:=b1 i (by omega); omega) this
  · obtain ⟨N,n1,n2⟩:=over_step (D:=L) (Dk:=L ^ i) (fun b=>st i b) t (paired_take' j hov)
    have a:=F.sum i hi j t
    have e:stepV (ks .counted trivial) (ps.take j) (stepsV (ks .counted trivial) ps p i) t=(some N:Option Nat):=n1
    rw [e] at a
    rw [← Nat.pow_succ] at n2
    exact (sm_frac L0 L1 n2 a).mono (by have:=b1 (i + 1) hi; omega)
theorem Graph.fits {kd:Kd} {ok:KdOk kd} {n:Nat} {es:List (Edge (Car kd))} (G:Graph kd n es) (hl:es.length≤64) (p:Nat) {k:Nat} (hk:k≤60):Fits kd ok es p k 50000:=by
  by_cases hc:kd=.chances
  · subst hc
    exact (fits_chances G hl p k).mono (by omega)
  · exact (fits_plain hc G.sm hl p k).mono (by omega)
end Ws
namespace Ws
open PySem
section
variable {S : Type} (M : KSR S)
abbrev Mat (S:Type):=Nat→Nat→S
def ledA (A:Mat S) (k:Nat) (r:S):Mat S:=fun i j=>M.add (A i j) (M.mul (M.mul (A i k) r) (A k j))
abbrev KSR.to (k:Nat) (f:Nat→S):S:=M.sum ((List.range k).map f)
theorem to_succ (k:Nat) (f:Nat→S):M.to (k + 1) f=M.add (M.to k f) (f k):=by
  unfold KSR.to
  rw [List.range_succ,List.map_append,List.map_singleton,M.sum_snoc]
structure Rec (A0:Mat S) (k:Nat) (A:Mat S):Prop where
  fw:∀ i j,A i j=M.add (A0 i j) (M.to k fun l=>M.mul (A0 i l) (A l j))
  bw:∀ i j,A i j=M.add (A0 i j) (M.to k fun l=>M.mul (A i l) (A0 l j))
end
end Ws
namespace Ws
end Ws
namespace Ws
open PySem
structure Frac (b:Nat) (A:Mat Cha):Prop where
  ex:∃ d:Nat→Nat,∀ i,0 < d i∧d i < 2 ^ b∧∀ j,∃ a:Nat,a < 2 ^ b∧(A i j).1 * (d i:Rat)=(a:Rat)
end Ws
namespace Ws
open PySem
section
variable {S : Type} (M : KSR S)
theorem le_refl (a:S):M.le a a:=⟨M.zero,M.add_zero a⟩
theorem le_trans {a b c:S} (h:M.le a b) (h':M.le b c):M.le a c:=by
  obtain ⟨d,rfl⟩:=h
  obtain ⟨e,rfl⟩:=h'
  exact ⟨M.add d e,(M.add_assoc _ _ _).symm⟩
theorem le_anti {a b:S} (h:M.le a b) (h':M.le b a):a=b:=by
  obtain ⟨d,e⟩:=h
  obtain ⟨d',e'⟩:=h'
  exact M.anti a b d d' e e'
theorem le_of_eq {a b:S} (h:a=b):M.le a b:=h ▸ le_refl M a
theorem zero_le (a:S):M.le M.zero a:=⟨a,M.zero_add a⟩
theorem le_add (a b:S):M.le a (M.add a b):=⟨b,rfl⟩
theorem le_add' (a b:S):M.le b (M.add a b):=⟨a,M.add_comm b a⟩
theorem add_le {a b c d:S} (h:M.le a b) (h':M.le c d):M.le (M.add a c) (M.add b d):=by
  obtain ⟨x,rfl⟩:=h
  obtain ⟨y,rfl⟩:=h'
  exact ⟨M.add x y,M.add4 a c x y⟩
theorem mul_le {a b c d:S} (h:M.le a b) (h':M.le c d):M.le (M.mul a c) (M.mul b d):=by
  obtain ⟨x,rfl⟩:=h
  obtain ⟨y,rfl⟩:=h'
  refine ⟨M.add (M.mul a y) (M.mul x (M.add c y)),?_⟩
  rw [M.add_mul,M.mul_add a,M.add_assoc]
end
end Ws
namespace Ws
open PySem
section
variable {S : Type} (M : KSR S)
end
end Ws
namespace Ws
open PySem
end Ws
namespace Ws
open PySem
theorem pigeon:∀ (n:Nat) (f:Nat→Nat),(∀ i,i≤n→f i < n)→∃ i j,i < j∧j≤n∧f i=f j
  | 0,f,h=>absurd (h 0 (Nat.le_refl 0)) (Nat.not_lt_zero _)
  | n + 1,f,h=>by
    by_cases c:∃ i,i≤n∧f i=f (n + 1)
    · obtain ⟨i,hi,e⟩:=c
      exact ⟨i,n + 1,by omega,Nat.le_refl _,e⟩
    · have c:∀ i,i≤n→f i≠f (n + 1):=fun i hi e=>c ⟨i,hi,e⟩
      obtain ⟨i,j,hij,hj,e⟩:=pigeon n (fun i=>if f i=n then f (n + 1) else f i) (fun i hi=>by
        show (if _ then _ else _) < _
        have a:=h i (by omega)
        have b:=h (n + 1) (Nat.le_refl _)
        have d:=c i hi
        split <;> omega)
      refine ⟨i,j,hij,by omega,?_⟩
      have e:(if f i=n then f (n + 1) else f i)=(if f j=n then f (n + 1) else f j):=e
      have a:=c i (by omega)
      have b:=c j hj
      split at e <;> split at e <;> omega
def goes {S:Type} (p:Nat):List (Edge S)→Option Nat
  | []=>some p
  | e :: l=>if e.f=p then goes e.t l else none
theorem goes_app {S:Type}:∀ {l r:List (Edge S)} {p:Nat},goes p (l ++ r)=(goes p l).bind fun v=>goes v r
  | [],r,p=>rfl
  | e :: l,r,p=>by
    show (if e.f=p then goes e.t (l ++ r) else none)=(if e.f=p then goes e.t l else none).bind _
    split
    · exact goes_app
    · rfl
theorem goes_lt {S:Type} {n:Nat}:∀ {l:List (Edge S)} {p q:Nat},p < n→(∀ e∈l,e.f < n∧e.t < n)→goes p l=some q→q < n
  | [],p,q,hp,_,h=>by cases h; exact hp
  | e :: l,p,q,hp,he,h=>by
    unfold goes at h
    split at h
    · exact goes_lt (he e List.mem_cons_self).2 (fun x hx=>he x (List.mem_cons_of_mem _ hx)) h
    · cases h
theorem goes_take {S:Type} {l:List (Edge S)} {p q:Nat} (h:goes p l=some q) (i:Nat):∃ v,goes p (l.take i)=some v∧goes v (l.drop i)=some q:=by
  have e:=h
  rw [← List.take_append_drop i l,goes_app] at e
  cases c:goes p (l.take i) with
  | none=>rw [c] at e; cases e
  | some v=>rw [c] at e; exact ⟨v,rfl,e⟩
theorem way_cut {S:Type} {n:Nat} {l:List (Edge S)} {p q:Nat} (hp:p < n) (he:∀ e∈l,e.f < n∧e.t < n) (h:goes p l=some q) (hl:n≤l.length) :
    ∃ l1 l2 l3 v,l=l1 ++ (l2 ++ l3)∧l2≠[]∧goes p l1=some v∧goes v l2=some v∧goes v l3=some q:=by
  obtain ⟨i,j,hij,hj,e⟩:=pigeon n (fun i=>(goes p (l.take i)).getD 0) (fun i _=>by
    obtain ⟨v,e1,_⟩:=goes_take h i
    show (goes p (l.take i)).getD 0 < n
    rw [e1]
    exact goes_lt hp (fun x hx=>he x (List.mem_of_mem_take hx)) e1)
  obtain ⟨v,a1,a2⟩:=goes_take h i
  obtain ⟨v',b1,b2⟩:=goes_take h j
  have e:(goes p (l.take i)).getD 0=(goes p (l.take j)).getD 0:=e
  rw [a1,b1] at e
  obtain rfl:v=v':=e
  obtain ⟨u,c1,c2⟩:=goes_take a2 (j - i)
  have ej:l.take j=l.take i ++ (l.drop i).take (j - i):=by
    have:=List.take_add (l:=l) (i:=i) (j:=j - i)
    rw [show i + (j - i)=j by omega] at this
    exact this
  rw [ej,goes_app,a1] at b1
  have b1:goes v ((l.drop i).take (j - i))=some v:=b1
  rw [c1] at b1
  obtain rfl:u=v:=Option.some.inj b1
  refine ⟨l.take i,(l.drop i).take (j - i),(l.drop i).drop (j - i),u,?_,?_,a1,c1,c2⟩
  · rw [List.take_append_drop,List.take_append_drop]
  · intro z
    have:=congrArg List.length z
    rw [List.length_take,List.length_drop,List.length_nil] at this
    omega
section
variable {S : Type} (M : KSR S)
def worthL (l:List (Edge S)):S:=l.foldr (fun e x=>M.mul e.c x) M.one
theorem worthL_app:∀ l r:List (Edge S),worthL M (l ++ r)=M.mul (worthL M l) (worthL M r)
  | [],r=>(M.one_mul _).symm
  | e :: l,r=>by
    show M.mul e.c (worthL M (l ++ r))=M.mul (M.mul e.c (worthL M l)) (worthL M r)
    rw [worthL_app l r,M.mul_assoc]
theorem mem_le_sum {α:Type} (f:α→S):∀ {l:List α} {x:α},x∈l→M.le (f x) (M.sum (l.map f))
  | [],x,h=>nomatch h
  | y :: l,x,h=>by
    show M.le (f x) (M.add (f y) (M.sum (l.map f)))
    rcases List.mem_cons.mp h with rfl | h
    · exact le_add M _ _
    · exact le_trans M (mem_le_sum f h) (le_add' M _ _)
theorem way_le {es:List (Edge S)} {p:Nat}:∀ (k:Nat) {l:List (Edge S)} {q:Nat},l.length=k→(∀ e∈l,e∈es)→goes p l=some q→M.le (worthL M l) (stepsV M es p k q)
  | 0,l,q,hl,_,h=>by
    obtain rfl:=List.length_eq_zero_iff.mp hl
    cases h
    refine le_of_eq M ?_
    show M.one=unitV M p p
    unfold unitV
    exact (if_pos rfl).symm
  | k + 1,l,q,hl,he,h=>by
    obtain ⟨r,e,rfl⟩:∃ r e,l=r ++ [e]:=⟨l.dropLast,l.getLast (by intro z; rw [z] at hl; cases hl),(List.dropLast_concat_getLast _).symm⟩
    rw [List.length_append,List.length_singleton] at hl
    rw [goes_app] at h
    cases c:goes p r with
    | none=>rw [c] at h; cases h
    | some v =>
      rw [c] at h
      have h:(if e.f=v then some e.t else none)=some q:=h
      split at h
      · rename_i ef
        cases h
        have ih:=way_le k (l:=r) (by omega) (fun x hx=>he x (List.mem_append_left _ hx)) c
        have me:e∈es:=he e (List.mem_append_right _ List.mem_cons_self)
        rw [worthL_app]
        have e1:worthL M [e]=e.c:=M.mul_one _
        rw [e1]
        show M.le _ (stepV M es (stepsV M es p k) e.t)
        have z:=mem_le_sum M (fun e':Edge S=>M.when (e'.t=e.t) (M.mul (stepsV M es p k e'.f) e'.c)) me
        refine le_trans M ?_ z
        rw [show M.when (e.t=e.t) (M.mul (stepsV M es p k e.f) e.c)=M.mul (stepsV M es p k e.f) e.c from if_pos rfl,ef]
        exact mul_le M ih (le_refl M _)
      · cases h
def Idem:Prop:=∀ x,M.add x x=x
theorem add_le_of (hi:Idem M) {a b x:S} (h:M.le a x) (h':M.le b x):M.le (M.add a b) x:=by
  have z:=add_le M h h'
  rwa [hi x] at z
theorem sum_le_of (hi:Idem M) {α:Type} {f:α→S} {x:S}:∀ {l:List α},(∀ y∈l,M.le (f y) x)→M.le (M.sum (l.map f)) x
  | [],_=>zero_le M x
  | y :: l,h=>add_le_of M hi (h y List.mem_cons_self) (sum_le_of hi fun z hz=>h z (List.mem_cons_of_mem _ hz))
theorem steps_le (hi:Idem M) {es:List (Edge S)} {p:Nat} {x:S}:∀ (k:Nat) (q:Nat) (y:S),(∀ l:List (Edge S),l.length=k→(∀ e∈l,e∈es)→goes p l=some q→M.le (M.mul (worthL M l) y) x)→M.le (M.mul (stepsV M es p k q) y) x
  | 0,q,y,h=>by
    show M.le (M.mul (M.when (q=p) M.one) y) x
    unfold KSR.when
    split
    · rename_i c
      exact h [] rfl (fun e he=>nomatch he) (congrArg some c.symm)
    · rw [M.zero_mul]; exact zero_le M x
  | k + 1,q,y,h=>by
    show M.le (M.mul (M.sum (es.map fun e=>M.when (e.t=q) (M.mul (stepsV M es p k e.f) e.c))) y) x
    rw [M.sum_mul,List.map_map]
    refine sum_le_of M hi fun e he=>?_
    show M.le (M.mul (M.when (e.t=q) (M.mul (stepsV M es p k e.f) e.c)) y) x
    unfold KSR.when
    split
    · rename_i c
      rw [M.mul_assoc]
      refine steps_le hi k e.f (M.mul e.c y) fun l hl hm hg=>?_
      have z:=h (l ++ [e]) (by rw [List.length_append,hl]; rfl) (fun e' he'=>by
        rcases List.mem_append.mp he' with h1 | h1
        · exact hm e' h1
        · rw [List.mem_singleton.mp h1]; exact he) (by rw [goes_app,hg]; show (if e.f=e.f then some e.t else none)=some q; rw [if_pos rfl,c])
      rw [worthL_app,show worthL M [e]=e.c from M.mul_one _,M.mul_assoc] at z
      exact z
    · rw [M.zero_mul]; exact zero_le M x
def Tops:Prop:=∀ x,M.add M.one x=M.one
theorem Tops.idem {M:KSR S} (h:Tops M):Idem M:=fun x=>by
  have:=congrArg (M.mul x) (h M.one)
  rwa [M.mul_add,M.mul_one] at this
def upTo (es:List (Edge S)) (p k q:Nat):S:=M.to (k + 1) fun s=>stepsV M es p s q
theorem way_short (ht:Tops M) {n:Nat} {es:List (Edge S)} (hes:∀ e∈es,e.f < n∧e.t < n) {p:Nat} (hp:p < n):∀ (k:Nat) {l:List (Edge S)} {q:Nat},l.length≤k→(∀ e∈l,e∈es)→goes p l=some q→M.le (worthL M l) (upTo M es p (n - 1) q)
  | k,l,q,hl,he,h=>by
    by_cases c:l.length < n
    · refine le_trans M (way_le M l.length rfl he h) ?_
      exact mem_le_sum M (fun s=>stepsV M es p s q) (List.mem_range.mpr (by omega))
    · obtain ⟨l1,l2,l3,v,rfl,ne,g1,g2,g3⟩:=way_cut hp (fun e m=>hes e (he e m)) h (by omega)
      have n2:0 < l2.length:=List.length_pos_iff.mpr ne
      rw [List.length_append,List.length_append] at hl
      match k,hl with
      | 0,hl=>omega
      | k + 1,hl =>
        have z:=way_short ht hes hp k (l:=l1 ++ l3) (q:=q) (by rw [List.length_append]; omega) (fun e m=>he e (by
          rcases List.mem_append.mp m with m | m
          · exact List.mem_append_left _ m
          · exact List.mem_append_right _ (List.mem_append_right _ m))) (by rw [goes_app,g1]; exact g3)
        refine le_trans M ?_ z
        rw [worthL_app,worthL_app,worthL_app]
        refine mul_le M (le_refl M _) ?_
        have o:M.le (worthL M l2) M.one:=⟨M.one,by rw [M.add_comm]; exact ht _⟩
        have:=mul_le M o (le_refl M (worthL M l3))
        rwa [M.one_mul] at this
end
end Ws
namespace Ws
open PySem
section
variable {S : Type} (M : KSR S)
end
theorem tops_kd {kd:Kd} {ok:KdOk kd} (h:kno kd=0∨kno kd=1∨kno kd=3∨kno kd=5):Tops (ks kd ok):=by
  intro x
  cases kd with
  | fewest =>
    show oMin (some 0) x=some 0
    cases x <;> simp [oMin]
  | widest =>
    refine Subtype.ext ?_
    show max 1000000000 x.1=1000000000
    have:=x.2
    omega
  | likeliest =>
    refine Subtype.ext ?_
    show rmax 1 x.1=1
    have:=x.2
    unfold rmax
    grind
  | musts =>
    show oAnd (some 0) x=some 0
    cases x <;> simp [oAnd]
  | counted=>rcases h with h | h | h | h <;> cases h
  | chances=>rcases h with h | h | h | h <;> cases h
  | rests m=>rcases h with h | h | h | h <;> cases h
end Ws
namespace Ws
open PySem
end Ws
namespace Ws
open PySem
def lf (p i:Nat):Nat:=if i < p then i else i + 1
section
variable {S : Type} (M : KSR S)
end
end Ws
namespace Ws
open PySem
section
variable {kd : Kd} (ok : KdOk kd)
end
section
end
end Ws
namespace Ws
open PySem
structure GrT (kd:Kd) (ok:KdOk kd) (n:Nat) (es:List (Edge (Car kd))):Prop where
  nb:n≤8
  ends:∀ e∈es,e.f < n∧e.t < n
  sm:∀ e∈es,Sm 2000 (enc kd e.c)
  sum:∀ j i t,Sm 52000 (enc kd (stepV (ks kd ok) (es.take j) (unitV (ks kd ok) i) t))
section
variable {kd : Kd} {ok : KdOk kd} {m p : Nat} {es : List (Edge (Car kd))} {r : Car kd}
end
end Ws
namespace Ws
open PySem
section
variable {S : Type} (M : KSR S)
end
end Ws
namespace Ws
open PySem
def rsum (n:Nat) (f:Nat→Rat):Rat:=((List.range n).map f).sum
theorem rsum_zero (f:Nat→Rat):rsum 0 f=0:=rfl
theorem rsum_succ (n:Nat) (f:Nat→Rat):rsum (n + 1) f=rsum n f + f n:=by
  unfold rsum
  rw [List.range_succ,List.map_append,List.sum_append]
  show _ + (f n + 0)=_
  grind
theorem rsum_congr {n:Nat} {f g:Nat→Rat} (h:∀ i,i < n→f i=g i):rsum n f=rsum n g:=by
  unfold rsum
  rw [List.map_congr_left fun i hi=>h i (List.mem_range.mp hi)]
theorem rsum_add (f g:Nat→Rat):∀ n,rsum n (fun i=>f i + g i)=rsum n f + rsum n g
  | 0=>by rw [rsum_zero,rsum_zero,rsum_zero]; grind
  | n + 1=>by rw [rsum_succ,rsum_succ,rsum_succ,rsum_add f g n]; grind
theorem rsum_mul (c:Rat) (f:Nat→Rat):∀ n,rsum n (fun i=>c * f i)=c * rsum n f
  | 0=>by rw [rsum_zero,rsum_zero]; grind
  | n + 1=>by rw [rsum_succ,rsum_succ,rsum_mul c f n]; grind
theorem rsum_le {f g:Nat→Rat}:∀ {n:Nat},(∀ i,i < n→f i≤g i)→rsum n f≤rsum n g
  | 0,_=>Rat.le_refl
  | n + 1,h=>by
    rw [rsum_succ,rsum_succ]
    have a:=rsum_le (n:=n) fun i hi=>h i (by omega)
    have b:=h n (by omega)
    grind
theorem rsum_at (f:Nat→Rat) (k:Nat):∀ n,rsum n (fun i=>if i=k then f i else 0)=if k < n then f k else 0
  | 0=>rfl
  | n + 1=>by
    rw [rsum_succ,rsum_at f k n]
    by_cases c:k < n
    · rw [if_pos c,if_neg (by omega),if_pos (by omega)]; grind
    · rw [if_neg c]
      by_cases d:n=k
      · subst d; rw [if_pos rfl,if_pos (by omega)]; grind
      · rw [if_neg d,if_neg (by omega)]; grind
def gsum (n:Nat) (C:Nat→Bool) (f:Nat→Rat):Rat:=rsum n fun y=>if C y=true then f y else 0
theorem gsum_add {n:Nat} {C:Nat→Bool} {f g:Nat→Rat}:gsum n C (fun i=>f i + g i)=gsum n C f + gsum n C g:=by
  unfold gsum
  rw [← rsum_add]
  refine rsum_congr fun i _=>?_
  by_cases c:C i=true
  · rw [if_pos c,if_pos c,if_pos c]
  · rw [if_neg c,if_neg c,if_neg c]; grind
theorem gsum_mul {n:Nat} {C:Nat→Bool} (c:Rat) {f:Nat→Rat}:gsum n C (fun i=>c * f i)=c * gsum n C f:=by
  unfold gsum
  rw [← rsum_mul]
  refine rsum_congr fun i _=>?_
  by_cases d:C i=true
  · rw [if_pos d,if_pos d]
  · rw [if_neg d,if_neg d]; grind
theorem gsum_more {n k:Nat} {C D:Nat→Bool} {f:Nat→Rat} (hk:k < n) (h1:¬ C k=true) (hD:∀ i,D i=(C i || decide (i=k))):gsum n D f=gsum n C f + f k:=by
  have e:gsum n D f=rsum n fun i=>(if C i=true then f i else 0) + (if i=k then f i else 0):=by
    refine rsum_congr fun i _=>?_
    rw [hD]
    by_cases c:i=k
    · subst c
      rw [if_pos (by simp),if_neg h1,if_pos rfl]; grind
    · rw [if_neg c]
      by_cases d:C i=true
      · rw [if_pos (by simp [d]),if_pos d]; grind
      · rw [if_neg (by simp [c,d]),if_neg d]; grind
  rw [e,rsum_add,rsum_at,if_pos hk]; rfl
theorem gsum_mono {n:Nat} {C D:Nat→Bool} {f:Nat→Rat} (h:∀ i,i < n→C i=true→D i=true) (h0:∀ i,i < n→0≤f i):gsum n C f≤gsum n D f:=by
  refine rsum_le fun i hi=>?_
  by_cases c:C i=true
  · rw [if_pos c,if_pos (h i hi c)]; exact Rat.le_refl
  · rw [if_neg c]
    split
    · exact h0 i hi
    · exact Rat.le_refl
structure Closed (n k:Nat) (A:Mat Cha) (C:Nat→Bool):Prop where
  sub:∀ x,C x=true→k≤x∧x < n
  ex:∃ x,C x=true
  full:∀ x,C x=true→1≤gsum n C fun y=>(A x y).1
def Sub (n k:Nat) (A:Mat Cha):Prop:=∀ x,k≤x→x < n→gsum n (fun y=>decide (k≤y)) (fun y=>(A x y).1)≤1
theorem led_gsum {n k:Nat} {A:Mat Cha} {r:Cha} (C:Nat→Bool) (x:Nat):gsum n C (fun y=>(ledA ksChances A k r x y).1)=gsum n C (fun y=>(A x y).1) + (A x k).1 * r.1 * gsum n C (fun y=>(A k y).1):=by
  rw [← gsum_mul,← gsum_add]; rfl
theorem cha_star {a r:Cha} (h:ksChances.star a=some r):a.1 < 1∧r.1 * (1 - a.1)=1:=by
  have lt:a.1 < 1:=by
    by_cases c:a.1 < 1
    · exact c
    · rw [chances_ge _ c] at h; cases h
  rw [chances_lt _ lt] at h
  have e:r.1=(1 - a.1)⁻¹:=by cases h; rfl
  exact ⟨lt,by rw [e]; exact Rat.inv_mul_cancel _ (by grind)⟩
theorem sub_part {n k:Nat} {A:Mat Cha} (hs:Sub n k A) {C:Nat→Bool} (hC:∀ y,C y=true→k + 1≤y∧y < n) (hk:k < n) {x:Nat} (h1:k≤x) (h2:x < n):gsum n C (fun y=>(A x y).1) + (A x k).1≤1:=by
  have e:=gsum_more (n:=n) (k:=k) (C:=C) (D:=fun y=>C y || decide (y=k)) (f:=fun y=>(A x y).1) hk (fun z=>by have:=(hC k z).1; omega) (fun _=>rfl)
  have m:gsum n (fun y=>C y || decide (y=k)) (fun y=>(A x y).1)≤gsum n (fun y=>decide (k≤y)) (fun y=>(A x y).1):=gsum_mono (fun i _ h=>by
    rcases Bool.or_eq_true_iff.mp h with h | h
    · exact decide_eq_true (by have:=(hC i h).1; omega)
    · exact decide_eq_true (by have:=of_decide_eq_true h; omega)) (fun i _=>(A x i).2)
  have:=hs x h1 h2
  grind
theorem Closed.up {n k:Nat} {A:Mat Cha} {r:Cha} {C:Nat→Bool} (hs:Sub n k A) (hk:k < n) (hr:ksChances.star (A k k)=some r) (h:Closed n (k + 1) (ledA ksChances A k r) C):∃ D,Closed n k A D:=by
  obtain ⟨lt,er⟩:=cha_star hr
  have hC:=h.sub
  have full:∀ x,C x=true→1≤gsum n C (fun y=>(A x y).1) + (A x k).1 * r.1 * gsum n C (fun y=>(A k y).1):=fun x hx=>by
    have:=h.full x hx
    rw [led_gsum] at this; exact this
  have a2:=sub_part hs hC hk (Nat.le_refl k) hk
  have r0:=r.2
  by_cases all:∀ x,C x=true→(A x k).1=0
  · refine ⟨C,fun x hx=>⟨by have:=(hC x hx).1; omega,(hC x hx).2⟩,h.ex,fun x hx=>?_⟩
    have:=full x hx
    rw [all x hx] at this
    grind
  · obtain ⟨x0,hx0⟩:=Classical.not_forall.mp all
    obtain ⟨c0,nz⟩:=Classical.not_imp.mp hx0
    have nC:¬ C k=true:=fun z=>by have:=(hC k z).1; omega
    have more:∀ x,gsum n (fun y=>C y || decide (y=k)) (fun y=>(A x y).1)=gsum n C (fun y=>(A x y).1) + (A x k).1:=fun x=>gsum_more (f:=fun y=>(A x y).1) hk nC (fun _=>rfl)
    have s1:r.1 * gsum n C (fun y=>(A k y).1)≤1:=by
      have:=Rat.mul_le_mul_of_nonneg_left (show gsum n C (fun y=>(A k y).1)≤1 - (A k k).1 by grind) r0
      rw [er] at this; exact this
    have s2:1≤r.1 * gsum n C (fun y=>(A k y).1):=by
      have f0:=full x0 c0
      have p0:=sub_part hs hC hk (show k≤x0 by have:=(hC x0 c0).1; omega) (hC x0 c0).2
      have g0:=(A x0 k).2
      generalize gsum n C (fun y=>(A x0 y).1)=sx at *
      generalize gsum n C (fun y=>(A k y).1)=sk at *
      generalize (A x0 k).1=a at *
      have e:a * r.1 * sk=a * (r.1 * sk):=Rat.mul_assoc ..
      rw [e] at f0
      generalize r.1 * sk=u at *
      have pos:0 < a:=by grind
      have:a * 1≤a * u:=by grind
      by_cases c:1≤u
      · exact c
      · have:=Rat.mul_lt_mul_of_pos_left (show u < 1 by grind) pos
        grind
    refine ⟨fun y=>C y || decide (y=k),fun x hx=>?_,⟨k,by simp⟩,fun x hx=>?_⟩
    · rcases Bool.or_eq_true_iff.mp hx with hx | hx
      · exact ⟨by have:=(hC x hx).1; omega,(hC x hx).2⟩
      · have:=of_decide_eq_true hx; omega
    · rw [more]
      rcases Bool.or_eq_true_iff.mp hx with hx | hx
      · have f0:=full x hx
        have g0:=(A x k).2
        generalize gsum n C (fun y=>(A x y).1)=sx at *
        generalize gsum n C (fun y=>(A k y).1)=sk at *
        generalize (A x k).1=a at *
        have e:a * r.1 * sk=a * (r.1 * sk):=Rat.mul_assoc ..
        rw [e] at f0
        have:=Rat.mul_le_mul_of_nonneg_left s1 g0
        grind
      · obtain rfl:x=k:=of_decide_eq_true hx
        have s3:gsum n C (fun y=>(A x y).1)=(1 - (A x x).1) * (r.1 * gsum n C (fun y=>(A x y).1)):=by
          rw [← Rat.mul_assoc,Rat.mul_comm (1 - (A x x).1),er]; grind
        have:=Rat.mul_le_mul_of_nonneg_left s2 (show 0≤1 - (A x x).1 by grind)
        grind
end Ws
namespace Ws
open PySem
def rowS (es:List (Edge Cha)) (x:Nat):Rat:=((es.filter fun e=>decide (e.f=x)).map fun e=>e.c.1).sum
structure Fil (n p:Nat) (D:Nat→Nat) (es:List (Edge Cha)):Prop where
  ends:∀ e∈es,e.f < n∧e.t < n
  pos:∀ x,0 < D x
  lo:∀ x,p≤x→D x < 2 ^ 24
  hi:∀ x,D x < 2 ^ 26
  int:∀ e∈es,∃ k:Nat,e.c.1 * (D e.f:Rat)=(k:Rat)
  row:∀ x,rowS es x≤1
theorem Fil.skip {n p:Nat} {D:Nat→Nat} {es:List (Edge Cha)} (F:Fil n p D es):Fil n (p + 1) D es:=⟨F.ends,F.pos,fun x hx=>F.lo x (by omega),F.hi,F.int,F.row⟩
end Ws
namespace Ws
open PySem
theorem cMul0 {a b:Option Nat}:oMul a b=some 0 ↔ a=some 0∨b=some 0:=by
  rcases a with _ | _ | a <;> rcases b with _ | _ | b <;> simp [oMul]
abbrev CE:=Edge (Option Nat)
def Live (es l:List CE):Prop:=∀ e∈l,e∈es∧e.c≠some 0
theorem Live.worth {es:List CE}:∀ {l:List CE},Live es l→worthL ksCounted l≠some 0
  | [],_=>fun z=>by cases z
  | e :: l,h=>fun z=>by
    rcases cMul0.mp (show oMul e.c (worthL ksCounted l)=some 0 from z) with z | z
    · exact (h e List.mem_cons_self).2 z
    · exact Live.worth (fun x hx=>h x (List.mem_cons_of_mem _ hx)) z
section
variable {es : List CE} {n : Nat} {A : Mat (Option Nat)}
end
end Ws
namespace Ws
open PySem
section
variable {S : Type} (M : KSR S)
def Picks:Prop:=∀ x y,M.add x y=x∨M.add x y=y
theorem le_total (hp:Picks M) (a b:S):M.le a b∨M.le b a:=by
  rcases hp a b with h | h
  · right; exact ⟨a,by rw [M.add_comm]; exact h⟩
  · left; exact ⟨b,h⟩
theorem mul_le_left (ht:Tops M) (x y:S):M.le (M.mul x y) x:=⟨x,by
  have:M.add (M.mul x y) (M.mul x M.one)=x:=by
    rw [← M.mul_add,M.add_comm,ht,M.mul_one]
  rw [M.mul_one] at this; exact this⟩
theorem le_top1 (ht:Tops M) (x:S):M.le x M.one:=⟨M.one,by rw [M.add_comm]; exact ht x⟩
theorem le_zero {x:S} (h:M.le x M.zero):x=M.zero:=le_anti M h (zero_le M x)
inductive Way (es:List (Edge S)) (s:Nat):List Nat→Nat→S→List Nat→Prop
  | nil:Way es s [] s M.one [s]
  | snoc {ks:List Nat} {u:Nat} {x:S} {st:List Nat} {k:Nat} {e:Edge S}:Way es s ks u x st→es[k]?=some e→e.f=u→e.t ∉ st→Way es s (ks ++ [k]) e.t (M.mul x e.c) (st ++ [e.t])
theorem worthL_snoc (l:List (Edge S)) (e:Edge S):worthL M (l ++ [e])=M.mul (worthL M l) e.c:=by
  rw [worthL_app]
  show M.mul _ (M.mul e.c M.one)=_
  rw [M.mul_one]
theorem Way.goes {es:List (Edge S)} {s:Nat} {ks:List Nat} {u:Nat} {x:S} {st:List Nat} (h:Way M es s ks u x st):∃ l,(∀ e∈l,e∈es)∧Ws.goes s l=some u∧worthL M l=x:=by
  induction h with
  | nil=>exact ⟨[],fun _ h=>(nomatch h),rfl,rfl⟩
  | snoc hw he hf hn ih =>
    rename_i ks u x st k e
    obtain ⟨l,a,b,c⟩:=ih
    refine ⟨l ++ [e],fun y hy=>?_,?_,?_⟩
    · rcases List.mem_append.mp hy with hy | hy
      · exact a y hy
      · rw [List.mem_singleton.mp hy]; exact List.mem_of_getElem? he
    · rw [goes_app,b]
      show Ws.goes u [e]=some e.t
      unfold Ws.goes
      rw [if_pos hf]; rfl
    · rw [worthL_snoc,c]
theorem Way.mem {es:List (Edge S)} {s:Nat} {ks:List Nat} {u:Nat} {x:S} {st:List Nat} (h:Way M es s ks u x st):u∈st:=by
  cases h with
  | nil=>exact List.mem_singleton.mpr rfl
  | snoc=>exact List.mem_append_right _ (List.mem_singleton.mpr rfl)
def best (es:List (Edge S)) (s n v:Nat):S:=upTo M es s (n - 1) v
theorem Way.le_best (ht:Tops M) {es:List (Edge S)} {s n:Nat} (hes:∀ e∈es,e.f < n∧e.t < n) (hs:s < n) {ks:List Nat} {u:Nat} {x:S} {st:List Nat} (h:Way M es s ks u x st):M.le x (best M es s n u):=by
  obtain ⟨l,a,b,c⟩:=h.goes
  rw [← c]
  exact way_short M ht hes hs l.length (Nat.le_refl _) a b
theorem best_le (hi:Idem M) {es:List (Edge S)} {s n v:Nat} {x:S} (h:∀ l:List (Edge S),(∀ e∈l,e∈es)→Ws.goes s l=some v→M.le (worthL M l) x):M.le (best M es s n v) x:=by
  refine sum_le_of M hi fun k _=>?_
  have:=steps_le M hi (es:=es) (p:=s) (x:=x) k v M.one (fun l _ he hg=>by rw [M.mul_one]; exact h l he hg)
  rw [M.mul_one] at this; exact this
abbrev RE (S:Type):=Nat × S × List Nat
structure DInv (es:List (Edge S)) (s n:Nat) (Fr:Edge S→Prop) (SL:List (Nat × List Nat)) (RL:List (RE S)):Prop where
  rnd:(RL.map (·.1)).Nodup
  rS:∀ r∈RL,r.1 ∉ SL.map (·.1)
  rlt:∀ r∈RL,r.1 < n
  rne:∀ r∈RL,r.2.1≠M.zero
  rway:∀ r∈RL,∃ st,Way M es s r.2.2 r.1 r.2.1 st∧∀ y∈st,y=r.1∨y∈SL.map (·.1)
  snd:(SL.map (·.1)).Nodup
  slt:∀ p∈SL,p.1 < n
  sway:∀ p∈SL,(∃ st,Way M es s p.2 p.1 (best M es s n p.1) st∧∀ y∈st,y∈SL.map (·.1))∧best M es s n p.1≠M.zero
  front:∀ e∈es,Fr e→e.f∈SL.map (·.1)→e.t ∉ SL.map (·.1)→M.mul (best M es s n e.f) e.c≠M.zero→∃ r∈RL,r.1=e.t∧M.le (M.mul (best M es s n e.f) e.c) r.2.1
  start:s∈SL.map (·.1)∨(SL=[]∧RL=[(s,M.one,[])])
theorem exit_edge {es:List (Edge S)} (Q:Nat→Prop):∀ {l:List (Edge S)} {p q:Nat},(∀ e∈l,e∈es)→Q p→¬ Q q→Ws.goes p l=some q→∃ l1 e l2,l=l1 ++ e :: l2∧Ws.goes p l1=some e.f∧Q e.f∧¬ Q e.t
  | [],p,q,_,hp,hq,g=>by cases g; exact absurd hp hq
  | e :: l,p,q,he,hp,hq,g=>by
    unfold Ws.goes at g
    split at g
    · rename_i c
      by_cases d:Q e.t
      · obtain ⟨l1,e',l2,a1,a2,a3,a4⟩:=exit_edge Q (fun x hx=>he x (List.mem_cons_of_mem _ hx)) d hq g
        refine ⟨e :: l1,e',l2,by rw [a1]; rfl,?_,a3,a4⟩
        rw [Ws.goes.eq_def]
        dsimp only
        rw [if_pos c]; exact a2
      · exact ⟨[],e,l,rfl,by rw [c]; rfl,by rw [c]; exact hp,d⟩
    · cases g
section
variable {M} {es : List (Edge S)} {s n : Nat} {SL : List (Nat × List Nat)} {RL : List (RE S)} (hes : ∀ e ∈ es, e.f < n ∧ e.t < n) (hs : s < n) (ht : Tops M)
include hes hs ht
theorem DInv.walk (I:DInv M es s n (fun _=>True) SL RL) {x:S} (hx:∀ r∈RL,M.le r.2.1 x) {v:Nat} (hv:v ∉ SL.map (·.1)) {l:List (Edge S)} (he:∀ e∈l,e∈es) (g:Ws.goes s l=some v):M.le (worthL M l) x:=by
  rcases I.start with h | ⟨_,h⟩
  · obtain ⟨l1,e,l2,rfl,g1,e1,e2⟩:=exit_edge (es:=es) (fun y=>y∈SL.map (·.1)) he h hv g
    have em:e∈es:=he e (List.mem_append_right _ List.mem_cons_self)
    have w1:M.le (worthL M l1) (best M es s n e.f):=way_short M ht hes hs l1.length (Nat.le_refl _) (fun y hy=>he y (List.mem_append_left _ hy)) g1
    have w2:M.le (worthL M (l1 ++ e :: l2)) (M.mul (best M es s n e.f) e.c):=by
      rw [worthL_app]
      show M.le (M.mul (worthL M l1) (M.mul e.c (worthL M l2))) _
      exact mul_le M w1 (mul_le_left M ht _ _)
    by_cases z:M.mul (best M es s n e.f) e.c=M.zero
    · rw [z] at w2
      rw [le_zero M w2]; exact zero_le M x
    · obtain ⟨r,hr,_,le⟩:=I.front e em trivial e1 e2 z
      exact le_trans M w2 (le_trans M le (hx r hr))
  · have:=hx (s,M.one,[]) (by rw [h]; exact List.mem_singleton.mpr rfl)
    exact le_trans M (le_top1 M ht _) this
theorem DInv.isBest (I:DInv M es s n (fun _=>True) SL RL) {r:RE S} (hr:r∈RL) (hx:∀ r'∈RL,M.le r'.2.1 r.2.1):best M es s n r.1=r.2.1:=by
  obtain ⟨st,w,_⟩:=I.rway r hr
  exact le_anti M (best_le M ht.idem fun l he g=>I.walk hes hs ht hx (I.rS r hr) he g) (w.le_best M ht hes hs)
theorem DInv.done (I:DInv M es s n (fun _=>True) SL []) {v:Nat}:v∈SL.map (·.1) ↔ best M es s n v≠M.zero:=by
  constructor
  · intro h
    obtain ⟨p,hp,rfl⟩:=List.mem_map.mp h
    exact (I.sway p hp).2
  · intro h
    by_cases c:v∈SL.map (·.1)
    · exact c
    · exact absurd (le_zero M (best_le M ht.idem fun l he g=>I.walk hes hs ht (x:=M.zero) (fun r hr=>nomatch hr) c he g)) h
theorem DInv.settle (I:DInv M es s n (fun _=>True) SL RL) {r:RE S} (hr:r∈RL) (hx:∀ r'∈RL,M.le r'.2.1 r.2.1):DInv M es s n (fun e=>e.f≠r.1) (SL ++ [(r.1,r.2.2)]) (RL.filter fun r'=>decide (r'.1≠r.1)):=by
  have hb:=I.isBest hes hs ht hr hx
  have hS:(SL ++ [(r.1,r.2.2)]).map (·.1)=SL.map (·.1) ++ [r.1]:=by rw [List.map_append]; rfl
  have sub:∀ {r':RE S},r'∈RL.filter (fun r'=>decide (r'.1≠r.1))→r'∈RL∧r'.1≠r.1:=fun h=>⟨(List.mem_filter.mp h).1,of_decide_eq_true (List.mem_filter.mp h).2⟩
  refine ⟨((List.filter_sublist).map _).nodup I.rnd,fun r' h=>?_,fun r' h=>I.rlt r' (sub h).1,fun r' h=>I.rne r' (sub h).1,fun r' h=>?_,?_,fun p hp=>?_,fun p hp=>?_,fun e he hf h1 h2 h3=>?_,.inl ?_⟩
  · rw [hS]
    intro z
    rcases List.mem_append.mp z with z | z
    · exact I.rS r' (sub h).1 z
    · exact (sub h).2 (List.mem_singleton.mp z)
  · obtain ⟨st,w,a⟩:=I.rway r' (sub h).1
    refine ⟨st,w,fun y hy=>(a y hy).imp id fun z=>?_⟩
    rw [hS]; exact List.mem_append_left _ z
  · rw [hS,List.nodup_append]
    refine ⟨I.snd,by simp,fun a ha b hb e=>?_⟩
    rw [List.mem_singleton.mp hb] at e
    exact I.rS r hr (e ▸ ha)
  · rcases List.mem_append.mp hp with hp | hp
    · exact I.slt p hp
    · rw [List.mem_singleton.mp hp]; exact I.rlt r hr
  · rcases List.mem_append.mp hp with hp | hp
    · obtain ⟨⟨st,w,a⟩,z⟩:=I.sway p hp
      exact ⟨⟨st,w,fun y hy=>by rw [hS]; exact List.mem_append_left _ (a y hy)⟩,z⟩
    · rw [List.mem_singleton.mp hp]
      obtain ⟨st,w,a⟩:=I.rway r hr
      refine ⟨⟨st,by rw [hb]; exact w,fun y hy=>?_⟩,by rw [hb]; exact I.rne r hr⟩
      rw [hS]
      rcases a y hy with z | z
      · rw [z]; exact List.mem_append_right _ (List.mem_singleton.mpr rfl)
      · exact List.mem_append_left _ z
  · rw [hS] at h1 h2
    have h1:e.f∈SL.map (·.1):=by
      rcases List.mem_append.mp h1 with h1 | h1
      · exact h1
      · exact absurd (List.mem_singleton.mp h1) hf
    obtain ⟨r',hr',e1,e2⟩:=I.front e he trivial h1 (fun z=>h2 (List.mem_append_left _ z)) h3
    refine ⟨r',List.mem_filter.mpr ⟨hr',decide_eq_true fun z=>h2 (List.mem_append_right _ (List.mem_singleton.mpr ?_))⟩,e1,e2⟩
    rw [← e1]; exact z
  · rw [hS]
    rcases I.start with h | ⟨_,h⟩
    · exact List.mem_append_left _ h
    · rw [h] at hr
      have:=List.mem_singleton.mp hr
      rw [this]; exact List.mem_append_right _ (List.mem_singleton.mpr rfl)
end
section
variable {M} {es : List (Edge S)} {s n : Nat} {SL : List (Nat × List Nat)} {RL : List (RE S)} {Fr Fr' : Edge S → Prop}
theorem DInv.more (I:DInv M es s n Fr SL RL) (h:∀ e∈es,Fr' e→¬ Fr e→e.f∈SL.map (·.1)→e.t ∉ SL.map (·.1)→M.mul (best M es s n e.f) e.c≠M.zero→∃ r∈RL,r.1=e.t∧M.le (M.mul (best M es s n e.f) e.c) r.2.1):DInv M es s n Fr' SL RL:=by
  refine { I with front:=fun e he hf h1 h2 h3=>?_ }
  by_cases c:Fr e
  · exact I.front e he c h1 h2 h3
  · exact h e he hf c h1 h2 h3
def putR (RL:List (RE S)) (r:RE S):List (RE S):=if (RL.map (·.1)).contains r.1=true then RL.map (fun r'=>if r'.1=r.1 then r else r') else RL ++ [r]
theorem put_mem {r r':RE S} (h:r'∈putR RL r):r'=r∨(r'∈RL∧r'.1≠r.1):=by
  unfold putR at h
  split at h
  · obtain ⟨q,hq,e⟩:=List.mem_map.mp h
    split at e
    · exact .inl e.symm
    · rename_i c
      subst e
      exact .inr ⟨hq,c⟩
  · rename_i c
    rcases List.mem_append.mp h with h | h
    · refine .inr ⟨h,fun z=>c ?_⟩
      exact List.contains_iff_mem.mpr (List.mem_map.mpr ⟨r',h,z⟩)
    · exact .inl (List.mem_singleton.mp h)
theorem mem_put (r:RE S):r∈putR RL r:=by
  unfold putR
  split
  · rename_i c
    obtain ⟨q,hq,e⟩:=List.mem_map.mp (List.contains_iff_mem.mp c)
    exact List.mem_map.mpr ⟨q,hq,if_pos e⟩
  · exact List.mem_append_right _ (List.mem_singleton.mpr rfl)
theorem mem_put_of {r r':RE S} (h:r'∈RL) (ne:r'.1≠r.1):r'∈putR RL r:=by
  unfold putR
  split
  · exact List.mem_map.mpr ⟨r',h,if_neg ne⟩
  · exact List.mem_append_left _ h
theorem put_keys (r:RE S):(putR RL r).map (·.1)=if (RL.map (·.1)).contains r.1=true then RL.map (·.1) else RL.map (·.1) ++ [r.1]:=by
  unfold putR
  split
  · rw [List.map_map]
    refine List.map_congr_left fun q _=>?_
    show (if q.1=r.1 then r else q).1=q.1
    split
    · rename_i c; exact c.symm
    · rfl
  · rw [List.map_append]; rfl
theorem DInv.put (I:DInv M es s n Fr SL RL) {r:RE S} (hn:r.1 ∉ SL.map (·.1)) (hl:r.1 < n) (hz:r.2.1≠M.zero) (hw:∃ st,Way M es s r.2.2 r.1 r.2.1 st∧∀ y∈st,y=r.1∨y∈SL.map (·.1)) (hold:∀ r'∈RL,r'.1=r.1→M.le r'.2.1 r.2.1) (hS:SL≠[])
    (h:∀ e∈es,Fr' e→¬ Fr e→e.f∈SL.map (·.1)→e.t ∉ SL.map (·.1)→M.mul (best M es s n e.f) e.c≠M.zero→∃ r'∈putR RL r,r'.1=e.t∧M.le (M.mul (best M es s n e.f) e.c) r'.2.1):DInv M es s n Fr' SL (putR RL r):=by
  refine ⟨?_,fun r' h'=>?_,fun r' h'=>?_,fun r' h'=>?_,fun r' h'=>?_,I.snd,I.slt,I.sway,fun e he hf h1 h2 h3=>?_,I.start.imp id fun z=>absurd z.1 hS⟩
  · rw [put_keys]
    split
    · exact I.rnd
    · rename_i c
      rw [List.nodup_append]
      refine ⟨I.rnd,by simp,fun a ha b hb e=>c ?_⟩
      rw [List.mem_singleton.mp hb] at e
      exact List.contains_iff_mem.mpr (e ▸ ha)
  · rcases put_mem h' with rfl | ⟨q,_⟩
    · exact hn
    · exact I.rS r' q
  · rcases put_mem h' with rfl | ⟨q,_⟩
    · exact hl
    · exact I.rlt r' q
  · rcases put_mem h' with rfl | ⟨q,_⟩
    · exact hz
    · exact I.rne r' q
  · rcases put_mem h' with rfl | ⟨q,_⟩
    · exact hw
    · exact I.rway r' q
  · by_cases c:Fr e
    · obtain ⟨r',hr',e1,e2⟩:=I.front e he c h1 h2 h3
      by_cases d:r'.1=r.1
      · exact ⟨r,mem_put r,by rw [← d]; exact e1,le_trans M e2 (hold r' hr' d)⟩
      · exact ⟨r',mem_put_of hr' d,e1,e2⟩
    · exact h e he hf c h1 h2 h3
end
end
end Ws
namespace Ws
open PySem
theorem nd_len {n:Nat} {l:List Nat} (nd:l.Nodup) (h:∀ x∈l,x < n):l.length≤n:=by
  by_cases c:l.length≤n
  · exact c
  · exfalso
    obtain ⟨i,j,hij,hj,e⟩:=pigeon n (fun i=>l.getD i 0) (fun i hi=>by
      show l.getD i 0 < n
      rw [List.getD_eq_getElem?_getD,List.getElem?_eq_getElem (show i < l.length by omega)]
      exact h _ (List.getElem_mem _))
    have hi':i < l.length:=by omega
    have hj':j < l.length:=by omega
    have e:l.getD i 0=l.getD j 0:=e
    rw [List.getD_eq_getElem?_getD,List.getD_eq_getElem?_getD,List.getElem?_eq_getElem hi',List.getElem?_eq_getElem hj'] at e
    have e:l[i]=l[j]:=e
    have z:i=j:=(List.getElem?_inj hi' nd).mp ((List.getElem?_eq_getElem hi').trans ((congrArg some e).trans (List.getElem?_eq_getElem hj').symm))
    omega
section
variable {S : Type} {M : KSR S} {es : List (Edge S)} {s n : Nat}
theorem Way.nd {ks:List Nat} {u:Nat} {x:S} {st:List Nat} (h:Way M es s ks u x st):st.Nodup∧st.length=ks.length + 1:=by
  induction h with
  | nil=>exact ⟨by simp,rfl⟩
  | snoc hw he hf hn ih =>
    refine ⟨?_,by rw [List.length_append,List.length_append,ih.2]; rfl⟩
    rw [List.nodup_append]
    refine ⟨ih.1,by simp,fun a ha b hb z=>hn ?_⟩
    rw [List.mem_singleton.mp hb] at z
    exact z ▸ ha
theorem Way.lt {ks:List Nat} {u:Nat} {x:S} {st:List Nat} (hes:∀ e∈es,e.f < n∧e.t < n) (hs:s < n) (h:Way M es s ks u x st):(∀ y∈st,y < n)∧∀ k∈ks,k < es.length:=by
  induction h with
  | nil=>exact ⟨fun y hy=>by rw [List.mem_singleton.mp hy]; exact hs,fun k hk=>nomatch hk⟩
  | snoc hw he hf hn ih =>
    refine ⟨fun y hy=>?_,fun k hk=>?_⟩
    · rcases List.mem_append.mp hy with hy | hy
      · exact ih.1 y hy
      · rw [List.mem_singleton.mp hy]; exact (hes _ (List.mem_of_getElem? he)).2
    · rcases List.mem_append.mp hk with hk | hk
      · exact ih.2 k hk
      · rw [List.mem_singleton.mp hk]; exact (List.getElem?_eq_some_iff.mp he).1
theorem Way.short {ks:List Nat} {u:Nat} {x:S} {st:List Nat} (hes:∀ e∈es,e.f < n∧e.t < n) (hs:s < n) (h:Way M es s ks u x st):ks.length < n:=by
  have a:=nd_len h.nd.1 (h.lt hes hs).1
  rw [h.nd.2] at a
  exact a
end
theorem Way.sm {kd:Kd} {ok:KdOk kd} {es:List (Edge (Car kd))} {s:Nat} (hsm:∀ e∈es,Sm 200 (enc kd e.c)) {ks':List Nat} {u:Nat} {x:Car kd} {st:List Nat} (h:Way (ks kd ok) es s ks' u x st):Sm (212 * ks'.length + 40) (enc kd x):=by
  induction h with
  | nil=>exact (sm_one kd ok).mono (by show _≤40; decide)
  | snoc hw he hf hn ih =>
    rw [List.length_append,List.length_singleton]
    exact (sm_mul (ok:=ok) ih (hsm _ (List.mem_of_getElem? he))).mono (by omega)
theorem picks_kd {kd : Kd} {ok : KdOk kd} (h : kno kd = 0 ∨ kno kd = 1 ∨ kno kd = 3) : Picks (ks kd ok) := by
  cases kd with
  | fewest => intro x y; cases x <;> cases y <;> first | exact .inl rfl | exact .inr rfl | skip
              rename_i a b
              show some (min a b) = some a ∨ some (min a b) = some b
              rcases Nat.le_total a b with h | h
              · left; rw [Nat.min_eq_left h]
              · right; rw [Nat.min_eq_right h]
  | widest => intro x y
              show ksWidest.add x y = x ∨ ksWidest.add x y = y
              by_cases h : x.1 ≤ y.1
              · right; exact Subtype.ext (Nat.max_eq_right h)
              · left; exact Subtype.ext (Nat.max_eq_left (by omega))
  | likeliest => intro x y
                 show ksLikeliest.add x y = x ∨ ksLikeliest.add x y = y
                 by_cases h : x.1 < y.1
                 · right; exact Subtype.ext (if_pos h)
                 · left; exact Subtype.ext (if_neg h)
  | rests m => exact absurd h (by show ¬ ((6 : Int) = 0 ∨ (6 : Int) = 1 ∨ (6 : Int) = 3); decide)
  | _ => exact absurd h (by decide)
end Ws
namespace K14
open PySem L2 Ws
seal PE PT PW PA PC PS PSs PG PGs PI PO
def top (i : Nat) : Stmt := PySem.Challenge.pw_waysum_k14_picked_ways.main.body.getD i (.Pass ⟨0, 0, 0, 0⟩)
structure Adr where
  (cSumError cNoNet cNoWorth cNoPlace cNoPick cNoWay cNet cKind cFewest cWidest cCounted cLikeliest cChances cMusts cRests:Addr)
  (tMOST_PLACES tMOST_ROADS tWIDEST tMOST_RESTS:Tok)
def HasK:Kd→Prop
  | .fewest=>True
  | .widest=>True
  | .counted=>True
  | .likeliest=>True
  | .chances=>True
  | .musts=>True
  | .rests _=>True
def Adr.cls (a:Adr):Kd→Addr
  | .fewest=>a.cFewest
  | .widest=>a.cWidest
  | .counted=>a.cCounted
  | .likeliest=>a.cLikeliest
  | .chances=>a.cChances
  | .musts=>a.cMusts
  | .rests _=>a.cRests
structure Tx (K:PySem.W.Frag) (mg:Str→Option Value) (a:Adr):Prop where
  b_isinstance:mg "isinstance"=none
  b_len:mg "len"=none
  b_int:mg "int"=none
  b_bool:mg "bool"=none
  b_tuple:mg "tuple"=none
  b_list:mg "list"=none
  b_ValueError:mg "ValueError"=none
  b_range:mg "range"=none
  b_min:mg "min"=none
  b_max:mg "max"=none
  b_enumerate:mg "enumerate"=none
  c_MOST_PLACES:mg "MOST_PLACES"=some (.int 8 a.tMOST_PLACES)
  c_MOST_ROADS:mg "MOST_ROADS"=some (.int 64 a.tMOST_ROADS)
  c_WIDEST:mg "WIDEST"=some (.int 1000000000 a.tWIDEST)
  c_MOST_RESTS:mg "MOST_RESTS"=some (.int 12 a.tMOST_RESTS)
  g_SumError:mg "SumError"=some (.ref a.cSumError)
  g_NoNet:mg "NoNet"=some (.ref a.cNoNet)
  g_NoWorth:mg "NoWorth"=some (.ref a.cNoWorth)
  g_NoPlace:mg "NoPlace"=some (.ref a.cNoPlace)
  g_NoPick:mg "NoPick"=some (.ref a.cNoPick)
  g_NoWay:mg "NoWay"=some (.ref a.cNoWay)
  g_Net:mg "Net"=some (.ref a.cNet)
  g_Kind:mg "Kind"=some (.ref a.cKind)
  g_Fewest:mg "Fewest"=some (.ref a.cFewest)
  g_Widest:mg "Widest"=some (.ref a.cWidest)
  g_Counted:mg "Counted"=some (.ref a.cCounted)
  g_Likeliest:mg "Likeliest"=some (.ref a.cLikeliest)
  g_Chances:mg "Chances"=some (.ref a.cChances)
  g_Musts:mg "Musts"=some (.ref a.cMusts)
  g_Rests:mg "Rests"=some (.ref a.cRests)
  k_SumError:mg "SumError"=some (.ref a.cSumError)
  x_NoNet:ExC K mg "NoNet" a.cNoNet
  exk_NoNet:ExK K a.cNoNet
  exm_NoNet_SumError:PySem.W.exmOne K (.ref a.cNoNet) (.ref a.cSumError)=some true
  kt_NoNet_NoWay:PySem.W.kitOne K (.ref a.cNoNet) (.ref a.cNoWay)=some false
  kt_NoNet_ValueError:PySem.W.kitOne K (.ref a.cNoNet) (.type "ValueError")=some true
  x_NoPick:ExC K mg "NoPick" a.cNoPick
  exk_NoPick:ExK K a.cNoPick
  exm_NoPick_SumError:PySem.W.exmOne K (.ref a.cNoPick) (.ref a.cSumError)=some true
  kt_NoPick_NoWay:PySem.W.kitOne K (.ref a.cNoPick) (.ref a.cNoWay)=some false
  kt_NoPick_ValueError:PySem.W.kitOne K (.ref a.cNoPick) (.type "ValueError")=some true
  x_NoPlace:ExC K mg "NoPlace" a.cNoPlace
  exk_NoPlace:ExK K a.cNoPlace
  exm_NoPlace_SumError:PySem.W.exmOne K (.ref a.cNoPlace) (.ref a.cSumError)=some true
  kt_NoPlace_NoWay:PySem.W.kitOne K (.ref a.cNoPlace) (.ref a.cNoWay)=some false
  kt_NoPlace_ValueError:PySem.W.kitOne K (.ref a.cNoPlace) (.type "ValueError")=some true
  x_NoWay:ExC K mg "NoWay" a.cNoWay
  exk_NoWay:ExK K a.cNoWay
  exm_NoWay_SumError:PySem.W.exmOne K (.ref a.cNoWay) (.ref a.cSumError)=some true
  kt_NoWay_ValueError:PySem.W.kitOne K (.ref a.cNoWay) (.type "ValueError")=some true
  x_NoWorth:ExC K mg "NoWorth" a.cNoWorth
  exk_NoWorth:ExK K a.cNoWorth
  exm_NoWorth_SumError:PySem.W.exmOne K (.ref a.cNoWorth) (.ref a.cSumError)=some true
  kt_NoWorth_NoWay:PySem.W.kitOne K (.ref a.cNoWorth) (.ref a.cNoWay)=some false
  kt_NoWorth_ValueError:PySem.W.kitOne K (.ref a.cNoWorth) (.type "ValueError")=some true
  mk_Net:PySem.W.makesIn K a.cNet=true
  kp_Net:PySem.W.keepIn K (.ref a.cNet)=true
  na_Net_own_kind:NoAttr K a.cNet "own_kind"
  na_Net_how_many:NoAttr K a.cNet "how_many"
  na_Net_own_roads:NoAttr K a.cNet "own_roads"
  cl_Net:Cls K a.cNet
  n_Fewest:Mk0 K mg "Fewest" a.cFewest
  n_Widest:Mk0 K mg "Widest" a.cWidest
  n_Counted:Mk0 K mg "Counted" a.cCounted
  n_Likeliest:Mk0 K mg "Likeliest" a.cLikeliest
  n_Chances:Mk0 K mg "Chances" a.cChances
  n_Musts:Mk0 K mg "Musts" a.cMusts
  mk_Rests:PySem.W.makesIn K a.cRests=true
  kp_Rests:PySem.W.keepIn K (.ref a.cRests)=true
  na_Rests_m:NoAttr K a.cRests "m"
  cl:∀ kd,HasK kd→Cls K (a.cls kd)
abbrev KI:={kd:Kd // HasK kd}
abbrev Adr.cl (a:Adr) (i:KI):Addr:=a.cls i.1
def IsW (H:Hp):V→Wd→Prop
  | .non,.non=>True
  | .int i,.int j=>i=j
  | .ref p,.pair a b=>H p=some (.tup [.int a,.int b])
  | _,_=>False
theorem IsW.same {H H':Hp} (e:Same H H'):∀ {v:V} {w:Wd},IsW H v w→IsW H' v w
  | .non,.non,_=>True.intro
  | .int _,.int _,h=>h
  | .ref _,.pair _ _,h=>e _ _ h
theorem isW_cases {H:Hp}:∀ {v:V} {w:Wd},IsW H v w→(v=.non∧w=.non)∨(∃ i,v=.int i∧w=.int i)∨(∃ p a b,v=.ref p∧w=.pair a b∧H p=some (.tup [.int a,.int b]))
  | .non,.non,_=>.inl ⟨rfl,rfl⟩
  | .int _,.int _,h=>.inr (.inl ⟨_,rfl,congrArg Wd.int h.symm⟩)
  | .ref _,.pair _ _,h=>.inr (.inr ⟨_,_,_,rfl,rfl,h⟩)
theorem kit_nI {K:PySem.W.Frag}:PySem.W.kitOne K (.type "NoneType") (.type "int")=some false:=by rfl
theorem kit_iI {K:PySem.W.Frag}:PySem.W.kitOne K (.type "int") (.type "int")=some true:=by rfl
theorem kit_tI {K:PySem.W.Frag}:PySem.W.kitOne K (.type "tuple") (.type "int")=some false:=by rfl
theorem kit_nT {K:PySem.W.Frag}:PySem.W.kitOne K (.type "NoneType") (.type "tuple")=some false:=by rfl
theorem kit_iT {K:PySem.W.Frag}:PySem.W.kitOne K (.type "int") (.type "tuple")=some false:=by rfl
theorem kit_tT {K:PySem.W.Frag}:PySem.W.kitOne K (.type "tuple") (.type "tuple")=some true:=by rfl
def kfs:Kd→List (Str × V)
  | .rests m=>[("m",.int (m:Int))]
  | _=>[]
def KindAt (a:Adr) (H:Hp) (p:Addr) (kd:Kd):Prop:=∃ dx,H p=some (.ins (a.cls kd) dx (kfs kd))
section
variable {P : Program} {w : World} {K : PySem.W.Frag} {mg : Str → Option Value} {base : Heap} {a : Adr}
theorem log2_small {i:Int} (h:i.natAbs < 10 ^ 62):i.natAbs.log2 < 1920:=by
  by_cases z:i.natAbs=0
  · rw [z]; decide
  · have:=(Nat.log2_lt z (k:=210)).mpr (Nat.lt_trans h (by decide))
    omega
def spDivisor:Sp:=fun vs H Q _=>∃ x y:Int,vs=[.int x,.int y]∧0 < y∧Q (.int (Int.gcd x y:Int)) H
theorem sc_divisor:FnScope ["first","second","left"] ["first","second"] (defScope (top 24)):=⟨rfl,rfl,rfl,by decide +kernel,rfl,by decide +kernel,by decide +kernel⟩
theorem d_divisor (F:DefAt K mg "divisor" (top 24)):Dn P w K mg base 1 "divisor" ["first","second"] spDivisor:=by
  obtain ⟨f,fd,hm,F⟩:=F.ex
  refine ⟨f,fd,hm,F.kp,F.binds fun _ _ _ _ _ _ us hl=>match us,hl with | [_,_],_=>rfl,?_⟩
  refine F.okN sc_divisor (fun vs H Q E h=>?_) (fun cdv A outer s H vs Q E hr h=>?_)
  · obtain ⟨x,y,rfl,_⟩:=h
    rfl
  · obtain ⟨x,y,rfl,hy,q⟩:=h
    refine ⟨_,(pss_cons (ps_while PassesOwn.never (pt_cmpR op_gt (pv 1) pe_int (nomark _)) (pss_cons (ps_set (i:=2) sc_divisor.nd rfl (Or.inl rfl) (pe_op op_mod (pv 0) (pv 1)))
      (pss_cons (ps_set (i:=0) sc_divisor.nd rfl (Or.inl rfl) (pv 1))
      (pss_one (ps_set (i:=1) sc_divisor.nd rfl (Or.inl rfl) (pv 2))))))
      (pss_one (ps_ret (pv 0)))),?_⟩
    refine ⟨fun m σ H'=>∃ x' y' l,σ=[some (.int x'),some (.int y'),l]∧H'=H∧0≤y'∧m=y'.toNat∧Int.gcd x' y'=Int.gcd x y∧(y'=0→0≤x'),⟨_,x,y,_,rfl,rfl,by omega,rfl,rfl,fun z=>by omega⟩,?_⟩
    rintro m σ H' ⟨x',y',l,rfl,rfl,h0,rfl,hg,hx⟩
    refine ⟨_,rfl,_,_,rfl,rfl,_,rfl,?_⟩
    refine ite2 (fun c=>?_) (fun c=>?_)
    · have c:0 < y':=of_decide_eq_true c
      refine ⟨fun σ' H'=>_,fun _ _ z=>z,?_⟩
      refine ⟨_,rfl,_,rfl,_,_,rfl,rfl,c,_,rfl,_,rfl,?_⟩
      refine ⟨(x' % y').toNat,?_,_,_,_,rfl,rfl,Int.emod_nonneg _ (by omega),rfl,?_,fun _=>by omega⟩
      · have:=Int.emod_lt_of_pos x' c
        have:=Int.emod_nonneg x' (show y'≠0 by omega)
        omega
      · rw [← hg]
        exact gcd_step x' y'
    · have c:¬ 0 < y':=fun z=>c (decide_eq_true z)
      obtain rfl:y'=0:=by omega
      refine ⟨_,rfl,?_⟩
      rw [Int.gcd_zero_right] at hg
      have:x'=(Int.gcd x y:Int):=by rw [← hg]; have:=hx rfl; omega
      rw [this]
      exact q
theorem isW_int {H:Hp} {v:V} {i:Int} (h:IsW H v (.int i)):v=.int i:=by
  rcases isW_cases h with ⟨_,z⟩ | ⟨j,e,z⟩ | ⟨p,x,y,_,z,_⟩ <;> cases z
  exact e
theorem isW_pair {H:Hp} {v:V} {x y:Int} (h:IsW H v (.pair x y)):∃ p,v=.ref p∧H p=some (.tup [.int x,.int y]):=by
  rcases isW_cases h with ⟨_,z⟩ | ⟨j,e,z⟩ | ⟨p,x,y,e,z,h⟩ <;> cases z
  exact ⟨p,e,h⟩
theorem isW_non {H:Hp} {v:V} (h:IsW H v .non):v=.non:=by
  rcases isW_cases h with ⟨e,z⟩ | ⟨j,e,z⟩ | ⟨p,x,y,e,z,h⟩ <;> cases z
  exact e
theorem m_of {kd:Kd} (hk:HasK kd) {m qual:Str} {st:Stmt} {ps:List Str} {k:Nat} {sp:Sp} (T:Tx K mg a) (F:MthAt K (a.cls kd) m qual st)
    (hb:∀ (kV doc pm:Value) (an:Option Addr) (cdv ct:Value) (us:List Value),us.length=ps.length→bindArgs (PySem.W.fnOf m qual (defArgs st) (defBody st) (defScope st) .none kV doc pm an cdv ct) ⟨us,[]⟩=pure (ps.zip us))
    (h:∀ f fd,Fun K m qual st f fd→FnOk P w K mg base (CXE P w) k f fd ps sp) :
    Cls K (a.cls kd)∧∃ f fd,Meth K (a.cls kd) m f∧Binds K fd ps []∧FnOk P w K mg base (CXE P w) k f fd ps sp:=by
  obtain ⟨f,fd,hf,hi,F⟩:=F.ex
  exact ⟨T.cl kd hk,f,fd,⟨hf,hi,F.kp⟩,F.binds hb,h f fd F⟩
theorem rais_cx {N:List Str} {qual:Str} {scope:Scope} {f:Addr} {cd:Value} {A:Around} {outer:List Env} {s:Shared} {H:Hp} {E:XK} (hk:scope.kind=.function:=by rfl):Rais (cxOf (CXE P w) P w K mg base N qual scope f cd A outer s H E) E :=
  fun _ _ _ _ _ _ _ _ I mx q=>raise_cx I hk mx q
def spInit (a:Adr):Sp:=fun vs H Q E=>∃ p dx m,vs=[.ref p,.int m]∧H p=some (.ins a.cRests dx [])∧m.natAbs.log2 < 1920∧((1≤m∧m≤12)→Q .non (upd H p (.ins a.cRests dx [("m",.int m)])))∧(¬ (1≤m∧m≤12)→E (.ref a.cNoWorth) none H)
theorem sc_Rests_init:FnScope ["self","m"] ["self","m"] (defScope (inClass (top 43) 0)):=⟨rfl,rfl,rfl,by decide +kernel,rfl,by decide +kernel,by decide +kernel⟩
theorem make_Rests (T:Tx K mg a) (F:MthAt K a.cRests "__init__" "Rests.__init__" (inClass (top 43) 0)):Mkr P w K mg base 1 "Rests" a.cRests ["self","m"] (spInit a):=by
  obtain ⟨f,fd,hf,hi,F⟩:=F.ex
  refine ⟨T.g_Rests,f,fd,⟨T.mk_Rests,hf,hi,T.kp_Rests⟩,F.binds fun _ _ _ _ _ _ us hl=>match us,hl with | [_,_],_=>rfl,?_⟩
  refine F.okX sc_Rests_init (fun vs H Q E h=>?_) (fun cdv A outer s H vs Q E hr h=>?_)
  · obtain ⟨_,_,_,rfl,_⟩:=h
    rfl
  · obtain ⟨p,dx,m,rfl,hp,hl,q,e⟩:=h
    refine ⟨_,(pss_cons (ps_if (PW.pt (pw_or (pt_cmpR op_lt (pv 1) pe_int (nomark _)) (pw_or1 (pt_cmpR op_gt (pv 1) (pe_glob (v:=V.int 12) rfl T.c_MOST_RESTS ⟨_,rfl⟩) (nomark _))))) (pss_one (ps_raise T.x_NoWorth rfl rfl rais_cx (pa_cons (hs:=st_JoinedStr) (pe_fstr2 (pv 1)) pa_nil))) pss_nil)
      (pss_one (ps_fld (pv 0) (pv 1) rfl))),?_⟩
    have hs:(Str.ofString "rests are told by 1 to 12, not by ").length≤1000:=by decide +kernel
    refine ⟨_,rfl,_,_,rfl,rfl,_,rfl,iteD (fun c=>?_) (fun c=>?_)⟩
    · exact ⟨hs,_,rfl,_,rfl,hl,fun z=>⟨by show 1≤sizeLine; decide,e (fun ⟨y,_⟩=>by omega)⟩⟩
    · refine ⟨_,rfl,_,_,rfl,rfl,_,rfl,iteD (fun c2=>?_) (fun c2=>?_)⟩
      · exact ⟨hs,_,rfl,_,rfl,hl,fun z=>⟨by show 1≤sizeLine; decide,e (fun ⟨_,y⟩=>by omega)⟩⟩
      · exact ⟨_,rfl,_,rfl,p,_,dx,[],rfl,hp,T.cl (.rests 1) trivial,T.na_Rests_m,(by show 0 < 1000; decide),q ⟨by omega,by omega⟩⟩
def spCell (K:PySem.W.Frag):Sp:=fun vs H Q _=>∃ (sa:Addr) (ns:List Int) (k:Int),vs=[.ref sa,.int k]∧SqL K H sa (ns.map V.int)∧0≤k∧Q (.int (ns.getD k.toNat 0)) H
theorem sc_law_cell_at:FnScope ["script","k"] ["script","k"] (defScope (top 45)):=⟨rfl,rfl,rfl,by decide +kernel,rfl,by decide +kernel,by decide +kernel⟩
theorem d_cell (T:Tx K mg a) (F:DefAt K mg "_law_cell_at" (top 45)):Dn P w K mg base 1 "_law_cell_at" ["script","k"] (spCell K):=by
  obtain ⟨f,fd,hm,F⟩:=F.ex
  refine ⟨f,fd,hm,F.kp,F.binds fun _ _ _ _ _ _ us hl=>match us,hl with | [_,_],_=>rfl,?_⟩
  refine F.okN sc_law_cell_at (fun vs H Q E h=>?_) (fun cdv A outer s H vs Q E hr h=>?_)
  · obtain ⟨_,_,_,rfl,_⟩:=h
    rfl
  · obtain ⟨sa,ns,k,rfl,hS,h0,q⟩:=h
    refine ⟨_,(pss_cons (ps_if (pt_cmpR op_lt (pv 1) (pe_callB call_len_seq rfl T.b_len bt_len (pa_cons (hs:=st_Name) (pv 0) pa_nil)) (nomark _)) (pss_one (ps_ret (pe_ix ix_list (pv 0) (pv 1) (fun _ _=>rfl)))) pss_nil)
      (pss_one (ps_ret pe_int))),?_⟩
    refine ⟨_,rfl,_,rfl,sa,_,rfl,.inl hS,_,_,rfl,rfl,_,rfl,iteD (fun c=>?_) (fun c=>?_)⟩
    · rw [List.length_map] at c
      have e:atI (ns.map V.int) k=some (V.int (ns.getD k.toNat 0)):=by
        have e1:(ns.map V.int)[k.toNat]?=some (V.int (ns.getD k.toNat 0)):=by
          rw [List.getElem?_map,List.getD_eq_getElem?_getD,List.getElem?_eq_getElem (by omega)]
          rfl
        have:=atI_nat e1
        rw [show ((k.toNat:Nat):Int)=k by omega] at this
        exact this
      exact ⟨_,rfl,_,rfl,sa,_,k,_,rfl,rfl,hS,e,q⟩
    · rw [List.length_map] at c
      have e:ns.getD k.toNat 0=0:=by
        rw [List.getD_eq_getElem?_getD,List.getElem?_eq_none (by omega)]
        rfl
      rw [e] at q
      exact q
def spKind (a:Adr):Sp:=fun vs H Q _=>∃ which m,vs=[.int which,.int m]∧0≤which∧which < 7∧1≤m∧m≤12∧∀ p H',Same H H'→KindAt a H' p (kdOf which m)→Q (.ref p) H'
theorem sc_law_kind:FnScope ["which","m"] ["which","m"] (defScope (top 47)):=⟨rfl,rfl,rfl,by decide +kernel,rfl,by decide +kernel,by decide +kernel⟩
theorem d_kind (T:Tx K mg a) (M_Rests:Mkr P w K mg base 1 "Rests" a.cRests ["self","m"] (spInit a)) (F:DefAt K mg "_law_kind" (top 47)):Dn P w K mg base 3 "_law_kind" ["which","m"] (spKind a):=by
  obtain ⟨f,fd,hm,F⟩:=F.ex
  refine ⟨f,fd,hm,F.kp,F.binds fun _ _ _ _ _ _ us hl=>match us,hl with | [_,_],_=>rfl,?_⟩
  refine F.okN sc_law_kind (fun vs H Q E h=>?_) (fun cdv A outer s H vs Q E hr h=>?_)
  · obtain ⟨_,_,rfl,_⟩:=h
    rfl
  · obtain ⟨which,m,rfl,h0,h7,m1,m2,q⟩:=h
    refine ⟨_,(pss_cons (ps_if (pt_cmpR op_eq (pv 0) pe_int (nomark _)) (pss_one (ps_ret (pe_makeN T.n_Fewest rfl))) pss_nil)
      (pss_cons (ps_if (pt_cmpR op_eq (pv 0) pe_int (nomark _)) (pss_one (ps_ret (pe_makeN T.n_Widest rfl))) pss_nil)
      (pss_cons (ps_if (pt_cmpR op_eq (pv 0) pe_int (nomark _)) (pss_one (ps_ret (pe_makeN T.n_Counted rfl))) pss_nil)
      (pss_cons (ps_if (pt_cmpR op_eq (pv 0) pe_int (nomark _)) (pss_one (ps_ret (pe_makeN T.n_Likeliest rfl))) pss_nil)
      (pss_cons (ps_if (pt_cmpR op_eq (pv 0) pe_int (nomark _)) (pss_one (ps_ret (pe_makeN T.n_Chances rfl))) pss_nil)
      (pss_cons (ps_if (pt_cmpR op_eq (pv 0) pe_int (nomark _)) (pss_one (ps_ret (pe_makeN T.n_Musts rfl))) pss_nil)
      (pss_one (ps_ret (pe_makeD M_Rests (hr.mono (by decide)) rfl passE0 (pa_cons (hs:=st_Name) (pv 1) pa_nil)))))))))),?_⟩
    have mk:∀ kd,kdOf which m=kd→kfs kd=[]→∀ x dx,H x=none→H dx=none→dx≠x→Q (.ref x) (upd (upd H dx (.own x)) x (.ins (a.cls kd) dx [])) :=
      fun kd ek ef x dx nx ndx _=>q x _ (same_two nx ndx) (by rw [ek]; exact ⟨dx,by rw [ef]; exact upd_same⟩)
    refine ⟨_,rfl,rfl,_,rfl,iteEqI (fun e=>?_) (fun n0=>?_)⟩
    · exact mk .fewest (by simp [kdOf,e]) rfl
    refine ⟨_,rfl,rfl,_,rfl,iteEqI (fun e=>?_) (fun n1=>?_)⟩
    · exact mk .widest (by simp [kdOf,e]) rfl
    refine ⟨_,rfl,rfl,_,rfl,iteEqI (fun e=>?_) (fun n2=>?_)⟩
    · exact mk .counted (by simp [kdOf,e]) rfl
    refine ⟨_,rfl,rfl,_,rfl,iteEqI (fun e=>?_) (fun n3=>?_)⟩
    · exact mk .likeliest (by simp [kdOf,e]) rfl
    refine ⟨_,rfl,rfl,_,rfl,iteEqI (fun e=>?_) (fun n4=>?_)⟩
    · exact mk .chances (by simp [kdOf,e]) rfl
    refine ⟨_,rfl,rfl,_,rfl,iteEqI (fun e=>?_) (fun n5=>?_)⟩
    · exact mk .musts (by simp [kdOf,e]) rfl
    refine ⟨_,rfl,fun x dx nx ndx nex=>⟨x,dx,m,rfl,upd_same,log2_small (by omega),fun _=>⟨rfl,?_⟩,fun n=>absurd ⟨m1,m2⟩ n⟩⟩
    refine q x _ (fun b o e=>?_) ⟨dx,?_⟩
    · rw [upd_ne (ne_of_none e nx)]; exact same_two nx ndx b o e
    · rw [show kdOf which m=.rests m.toNat by simp [kdOf,n0,n1,n2,n3,n4,n5]]
      rw [upd_same]
      show some (HO.ins a.cRests dx [("m",V.int m)])=some (HO.ins a.cRests dx [("m",V.int (m.toNat:Int))])
      rw [show ((m.toNat:Nat):Int)=m by omega]
def spShare:Sp:=fun vs H Q _=>∃ t b:Int,vs=[.int t,.int b]∧0≤t∧0 < b∧∀ v H',Same H H'→IsW H' v (shareW t b)→Q v H'
theorem sc_law_share:FnScope ["top","below","one","other","kept"] ["top","below"] (defScope (top 48)):=⟨rfl,rfl,rfl,by decide +kernel,rfl,by decide +kernel,by decide +kernel⟩
theorem d_share (hP:P.given.tree=none) (T:Tx K mg a) (F:DefAt K mg "_law_share" (top 48)):Dn P w K mg base 33 "_law_share" ["top","below"] spShare:=by
  obtain ⟨f,fd,hm,F⟩:=F.ex
  refine ⟨f,fd,hm,F.kp,F.binds fun _ _ _ _ _ _ us hl=>match us,hl with | [_,_],_=>rfl,?_⟩
  refine F.okN sc_law_share (fun vs H Q E h=>?_) (fun cdv A outer s H vs Q E hr h=>?_)
  · obtain ⟨_,_,rfl,_⟩:=h
    rfl
  · obtain ⟨t,b,rfl,ht,hb,q⟩:=h
    have hd:(A.deeper (PyProof.Rows.envOfC "_law_share" (defScope (top 48)) s.heap.objs.size f cdv)).depth + 100 < recursionLimit:=by have:=hr.dp; omega
    refine ⟨_,(pss_cons (ps_set (i:=2) sc_law_share.nd rfl (Or.inl rfl) (pv 0))
      (pss_cons (ps_set (i:=3) sc_law_share.nd rfl (Or.inl rfl) (pv 1))
      (pss_cons (ps_while PassesOwn.never (pt_cmpR op_ne (pv 3) pe_int (nomark _)) (pss_cons (ps_set (i:=4) sc_law_share.nd rfl (Or.inl rfl) (pe_op op_mod (pv 2) (pv 3)))
      (pss_cons (ps_set (i:=2) sc_law_share.nd rfl (Or.inl rfl) (pv 3))
      (pss_one (ps_set (i:=3) sc_law_share.nd rfl (Or.inl rfl) (pv 4))))))
      (pss_one (ps_ret (pe_tup (pa_cons (hs:=st_BinOp) (pe_op (op_fdivA hP hd rfl rfl rfl) (pv 0) (pv 2)) (pa_cons (hs:=st_BinOp) (pe_op (op_fdivA hP hd rfl rfl rfl) (pv 1) (pv 2)) pa_nil)))))))),?_⟩
    refine ⟨_,rfl,_,rfl,?_⟩
    refine ⟨fun m σ H'=>∃ x y l,σ=[some (.int t),some (.int b),some (.int x),some (.int y),l]∧H'=H∧0≤y∧m=y.toNat∧Int.gcd x y=Int.gcd t b∧0≤x,⟨_,t,b,_,rfl,rfl,by omega,rfl,rfl,ht⟩,?_⟩
    rintro m σ H' ⟨x,y,l,rfl,rfl,h0,rfl,hg,hx⟩
    refine ⟨_,rfl,rfl,_,rfl,iteNeI (fun c=>?_) (fun c=>?_)⟩
    · have c:0 < y:=by omega
      refine ⟨fun σ' H'=>_,fun _ _ z=>z,?_⟩
      refine ⟨_,rfl,_,rfl,_,_,rfl,rfl,c,_,rfl,_,rfl,?_⟩
      refine ⟨(x % y).toNat,?_,_,_,_,rfl,rfl,Int.emod_nonneg _ (by omega),rfl,?_,by omega⟩
      · have:=Int.emod_lt_of_pos x c
        have:=Int.emod_nonneg x (show y≠0 by omega)
        omega
      · rw [← hg]
        exact gcd_step x y
    · subst c
      rw [Int.gcd_zero_right] at hg
      obtain rfl:x=(Int.gcd t b:Int):=by rw [← hg]; omega
      have gp:=gcd_pos (a:=t) hb
      refine ⟨_,rfl,_,rfl,_,_,rfl,rfl,gp,_,rfl,_,rfl,_,_,rfl,rfl,gp,(by show 2≤sizeLine; decide),fun p np=>?_⟩
      exact q (.ref p) _ (same_one np) upd_same
def spNone:Sp:=fun vs H Q _=>∃ which:Int,vs=[.int which]∧0≤which∧which < 7∧∀ v H',Same H H'→IsW H' v (noneW which)→Q v H'
def spRest:Sp:=fun vs H Q _=>∃ which:Int,vs=[.int which]∧0≤which∧which < 7∧∀ v H',Same H H'→IsW H' v (restW which)→Q v H'
theorem seven {x:Int} (h0:0≤x) (h7:x < 7):x=0∨x=1∨x=2∨x=3∨x=4∨x=5∨x=6:=by omega
theorem sc_law_none:FnScope ["which"] ["which"] (defScope (top 49)):=⟨rfl,rfl,rfl,by decide +kernel,rfl,by decide +kernel,by decide +kernel⟩
theorem d_none (F:DefAt K mg "_law_none" (top 49)):Dn P w K mg base 1 "_law_none" ["which"] spNone:=by
  obtain ⟨f,fd,hm,F⟩:=F.ex
  refine ⟨f,fd,hm,F.kp,F.binds fun _ _ _ _ _ _ us hl=>match us,hl with | [_],_=>rfl,?_⟩
  refine F.okN sc_law_none (fun vs H Q E h=>?_) (fun cdv A outer s H vs Q E hr h=>?_)
  · obtain ⟨_,rfl,_⟩:=h
    rfl
  · obtain ⟨which,rfl,h0,h7,q⟩:=h
    refine ⟨_,(pss_one (ps_ret (pe_ix ix_list (pe_lst (pa_cons (hs:=st_Constant) pe_non (pa_cons (hs:=st_Constant) pe_int (pa_cons (hs:=st_Constant) pe_int (pa_cons (hs:=st_Tuple) (pe_tup (pa_cons (hs:=st_Constant) pe_int (pa_cons (hs:=st_Constant) pe_int pa_nil))) (pa_cons (hs:=st_Tuple) (pe_tup (pa_cons (hs:=st_Constant) pe_int (pa_cons (hs:=st_Constant) pe_int pa_nil))) (pa_cons (hs:=st_Constant) pe_non (pa_cons (hs:=st_Constant) pe_int pa_nil)))))))) (pv 0) (fun _ _=>rfl)))),?_⟩
    refine ⟨(by show 2≤sizeLine; decide),fun p1 n1=>⟨(by show 2≤sizeLine; decide),fun p2 n2=>⟨(by show 7≤sizeLine; decide),fun l nl=>⟨_,rfl,?_⟩⟩⟩⟩
    have s1:Same H (upd H p1 (.tup [.int 0,.int 1])):=same_one n1
    have s2:=s1.trans (same_one (o:=.tup [.int 0,.int 1]) n2)
    have s3:=s2.trans (same_one (o:=.lst [.non,.int 0,.int 0,.ref p1,.ref p2,.non,.int 0]) nl)
    have e2:=same_one (o:=.lst [.non,.int 0,.int 0,.ref p1,.ref p2,.non,.int 0]) nl p2 _ upd_same
    have e1:=same_one (o:=.lst [.non,.int 0,.int 0,.ref p1,.ref p2,.non,.int 0]) nl p1 _ (same_one (o:=.tup [.int 0,.int 1]) n2 p1 _ upd_same)
    rcases seven h0 h7 with rfl | rfl | rfl | rfl | rfl | rfl | rfl
    · exact ⟨l,_,_,.non,rfl,rfl,SqL.of upd_same,rfl,q _ _ s3 True.intro⟩
    · exact ⟨l,_,_,.int 0,rfl,rfl,SqL.of upd_same,rfl,q _ _ s3 rfl⟩
    · exact ⟨l,_,_,.int 0,rfl,rfl,SqL.of upd_same,rfl,q _ _ s3 rfl⟩
    · exact ⟨l,_,_,.ref p1,rfl,rfl,SqL.of upd_same,rfl,q _ _ s3 e1⟩
    · exact ⟨l,_,_,.ref p2,rfl,rfl,SqL.of upd_same,rfl,q _ _ s3 e2⟩
    · exact ⟨l,_,_,.non,rfl,rfl,SqL.of upd_same,rfl,q _ _ s3 True.intro⟩
    · exact ⟨l,_,_,.int 0,rfl,rfl,SqL.of upd_same,rfl,q _ _ s3 rfl⟩
theorem sc_law_rest:FnScope ["which"] ["which"] (defScope (top 50)):=⟨rfl,rfl,rfl,by decide +kernel,rfl,by decide +kernel,by decide +kernel⟩
theorem d_rest (F:DefAt K mg "_law_rest" (top 50)):Dn P w K mg base 1 "_law_rest" ["which"] spRest:=by
  obtain ⟨f,fd,hm,F⟩:=F.ex
  refine ⟨f,fd,hm,F.kp,F.binds fun _ _ _ _ _ _ us hl=>match us,hl with | [_],_=>rfl,?_⟩
  refine F.okN sc_law_rest (fun vs H Q E h=>?_) (fun cdv A outer s H vs Q E hr h=>?_)
  · obtain ⟨_,rfl,_⟩:=h
    rfl
  · obtain ⟨which,rfl,h0,h7,q⟩:=h
    refine ⟨_,(pss_one (ps_ret (pe_ix ix_list (pe_lst (pa_cons (hs:=st_Constant) pe_int (pa_cons (hs:=st_BinOp) (pe_op op_pow pe_int pe_int) (pa_cons (hs:=st_Constant) pe_int (pa_cons (hs:=st_Tuple) (pe_tup (pa_cons (hs:=st_Constant) pe_int (pa_cons (hs:=st_Constant) pe_int pa_nil))) (pa_cons (hs:=st_Tuple) (pe_tup (pa_cons (hs:=st_Constant) pe_int (pa_cons (hs:=st_Constant) pe_int pa_nil))) (pa_cons (hs:=st_Constant) pe_int (pa_cons (hs:=st_Constant) pe_int pa_nil)))))))) (pv 0) (fun _ _=>rfl)))),?_⟩
    refine ⟨_,_,rfl,rfl,⟨by decide,by decide,by decide⟩,(by show 2≤sizeLine; decide),fun p1 n1=>⟨(by show 2≤sizeLine; decide),fun p2 n2=>⟨(by show 7≤sizeLine; decide),fun l nl=>⟨_,rfl,?_⟩⟩⟩⟩
    have s1:Same H (upd H p1 (.tup [.int 1,.int 1])):=same_one n1
    have s2:=s1.trans (same_one (o:=.tup [.int 1,.int 1]) n2)
    have s3:=s2.trans (same_one (o:=.lst [.int 0,.int (10 ^ (9:Int).toNat),.int 1,.ref p1,.ref p2,.int 0,.int 1]) nl)
    have e2:=same_one (o:=.lst [.int 0,.int (10 ^ (9:Int).toNat),.int 1,.ref p1,.ref p2,.int 0,.int 1]) nl p2 _ upd_same
    have e1:=same_one (o:=.lst [.int 0,.int (10 ^ (9:Int).toNat),.int 1,.ref p1,.ref p2,.int 0,.int 1]) nl p1 _ (same_one (o:=.tup [.int 1,.int 1]) n2 p1 _ upd_same)
    rcases seven h0 h7 with rfl | rfl | rfl | rfl | rfl | rfl | rfl
    · exact ⟨l,_,_,.int 0,rfl,rfl,SqL.of upd_same,rfl,q _ _ s3 rfl⟩
    · exact ⟨l,_,_,.int (10 ^ (9:Int).toNat),rfl,rfl,SqL.of upd_same,rfl,q _ _ s3 rfl⟩
    · exact ⟨l,_,_,.int 1,rfl,rfl,SqL.of upd_same,rfl,q _ _ s3 rfl⟩
    · exact ⟨l,_,_,.ref p1,rfl,rfl,SqL.of upd_same,rfl,q _ _ s3 e1⟩
    · exact ⟨l,_,_,.ref p2,rfl,rfl,SqL.of upd_same,rfl,q _ _ s3 e2⟩
    · exact ⟨l,_,_,.int 0,rfl,rfl,SqL.of upd_same,rfl,q _ _ s3 rfl⟩
    · exact ⟨l,_,_,.int 1,rfl,rfl,SqL.of upd_same,rfl,q _ _ s3 rfl⟩
def spWorth:Sp:=fun vs H Q _=>∃ which m cell:Int,vs=[.int which,.int m,.int cell]∧0≤which∧which < 7∧1≤m∧m≤12∧∀ v H',Same H H'→IsW H' v (worthW which m cell)→Q v H'
theorem sc_law_worth:FnScope ["which","m","cell","left","below"] ["which","m","cell"] (defScope (top 53)):=⟨rfl,rfl,rfl,by decide +kernel,rfl,by decide +kernel,by decide +kernel⟩
theorem p6:(0:Int) < 6:=by decide
theorem d_worth (T:Tx K mg a) (D_law_none:Dn P w K mg base 1 "_law_none" ["which"] spNone) (D_law_rest:Dn P w K mg base 1 "_law_rest" ["which"] spRest) (D_law_share:Dn P w K mg base 33 "_law_share" ["top","below"] spShare)
    (F:DefAt K mg "_law_worth" (top 53)):Dn P w K mg base 34 "_law_worth" ["which","m","cell"] spWorth:=by
  obtain ⟨f,fd,hm,F⟩:=F.ex
  refine ⟨f,fd,hm,F.kp,F.binds fun _ _ _ _ _ _ us hl=>match us,hl with | [_,_,_],_=>rfl,?_⟩
  refine F.okN sc_law_worth (fun vs H Q E h=>?_) (fun cdv A outer s H vs Q E hr h=>?_)
  · obtain ⟨_,_,_,rfl,_⟩:=h
    rfl
  · obtain ⟨which,m,cell,rfl,h0,h7,m1,m2,q⟩:=h
    refine ⟨_,(pss_cons (ps_set (i:=3) sc_law_worth.nd rfl (Or.inl rfl) (pe_op op_fdivX (pv 2) pe_int))
      (pss_cons (ps_if (pt_cmpR op_eq (pe_op op_mod (pv 2) pe_int) pe_int (nomark _)) (pss_one (ps_ret (pe_callD D_law_none (hr.mono (by decide)) rfl passE0 (pa_cons (hs:=st_Name) (pv 0) pa_nil)))) pss_nil)
      (pss_cons (ps_if (pt_cmpR op_eq (pe_op op_mod (pv 2) pe_int) pe_int (nomark _)) (pss_one (ps_ret (pe_callD D_law_rest (hr.mono (by decide)) rfl passE0 (pa_cons (hs:=st_Name) (pv 0) pa_nil)))) pss_nil)
      (pss_cons (ps_if (pt_cmpR op_eq (pv 0) pe_int (nomark _)) (pss_one (ps_ret (pe_ifExp (pt_cmpR op_lt (pe_op op_mod (pv 2) pe_int) pe_int (nomark _)) (pe_op op_mod (pv 3) pe_int) (pe_op op_mod (pv 3) (pe_op op_pow pe_int pe_int))))) pss_nil)
      (pss_cons (ps_if (pt_cmpR op_eq (pv 0) pe_int (nomark _)) (pss_one (ps_ret (pe_ifExp (pt_cmpR op_lt (pe_op op_mod (pv 2) pe_int) pe_int (nomark _)) (pe_op op_mod (pv 3) pe_int) (pe_op op_mod (pv 3) (pe_op op_add (pe_op op_pow pe_int pe_int) pe_int))))) pss_nil)
      (pss_cons (ps_if (pt_cmpR op_eq (pv 0) pe_int (nomark _)) (pss_one (ps_ret (pe_ifExp (pt_cmpR op_lt (pe_op op_mod (pv 2) pe_int) pe_int (nomark _)) (pe_op op_sub (pe_op op_mod (pv 3) pe_int) pe_int) (pe_op op_mod (pv 3) (pe_op op_pow pe_int pe_int))))) pss_nil)
      (pss_cons (ps_if (pt_cmpR op_eq (pv 0) pe_int (nomark _)) (pss_cons (ps_set (i:=4) sc_law_worth.nd rfl (Or.inl rfl) (pe_op op_add pe_int (pe_op op_mod (pe_op op_fdivX (pv 3) pe_int) pe_int)))
      (pss_one (ps_ret (pe_callD D_law_share (hr.mono (by decide)) rfl passE0 (pa_cons (hs:=st_BinOp) (pe_op op_mod (pv 3) (pe_op op_add (pv 4) pe_int)) (pa_cons (hs:=st_Name) (pv 4) pa_nil)))))) pss_nil)
      (pss_cons (ps_if (pt_cmpR op_eq (pv 0) pe_int (nomark _)) (pss_one (ps_ret (pe_callD D_law_share (hr.mono (by decide)) rfl passE0 (pa_cons (hs:=st_BinOp) (pe_op op_mod (pv 3) pe_int) (pa_cons (hs:=st_BinOp) (pe_op op_add pe_int (pe_op op_mod (pe_op op_fdivX (pv 3) pe_int) pe_int)) pa_nil))))) pss_nil)
      (pss_cons (ps_if (pt_cmpR op_eq (pv 0) pe_int (nomark _)) (pss_one (ps_ret (pe_ifExp (pt_cmpR op_lt (pe_op op_mod (pv 2) pe_int) pe_int (nomark _)) (pe_op op_mod (pv 3) pe_int) (pe_op op_mod (pv 3) (pe_op op_pow pe_int pe_int))))) pss_nil)
      (pss_one (ps_ret (pe_op op_mod (pv 3) (pe_op op_shl pe_int (pv 1)))))))))))))),?_⟩
    have qi:∀ i:Int,worthW which m cell=.int i→Q (.int i) H:=fun i e=>q _ _ (Same.refl H) (by rw [e]; exact rfl)
    refine ⟨_,rfl,_,_,rfl,rfl,⟨by decide,by decide⟩,?_⟩
    refine ⟨_,rfl,_,_,rfl,rfl,p6,rfl,_,rfl,iteEqI (fun e=>?_) (fun c1=>?_)⟩
    · exact ⟨_,rfl,which,rfl,h0,h7,fun v H' s' w'=>q v H' s' (by rw [show worthW which m cell=noneW which by simp [worthW,e]]; exact w')⟩
    refine ⟨_,rfl,_,_,rfl,rfl,p6,rfl,_,rfl,iteEqI (fun e=>?_) (fun c2=>?_)⟩
    · exact ⟨_,rfl,which,rfl,h0,h7,fun v H' s' w'=>q v H' s' (by rw [show worthW which m cell=restW which by simp [worthW,e]]; exact w')⟩
    refine ⟨_,rfl,rfl,_,rfl,iteEqI (fun e=>?_) (fun n0=>?_)⟩
    · refine ⟨_,rfl,_,_,rfl,rfl,p6,_,_,rfl,rfl,_,rfl,iteD (fun c=>?_) (fun c=>?_)⟩
      · exact ⟨_,rfl,_,_,rfl,rfl,(by show (0:Int) < 20; decide),qi _ (by simp [worthW,c1,c2,e,c])⟩
      · exact ⟨_,rfl,_,_,rfl,rfl,⟨by decide,by decide,by decide⟩,_,_,rfl,rfl,(by show (0:Int) < 10 ^ 30; decide),qi _ (by simp [worthW,c1,c2,e,c])⟩
    refine ⟨_,rfl,rfl,_,rfl,iteEqI (fun e=>?_) (fun n1=>?_)⟩
    · refine ⟨_,rfl,_,_,rfl,rfl,p6,_,_,rfl,rfl,_,rfl,iteD (fun c=>?_) (fun c=>?_)⟩
      · exact ⟨_,rfl,_,_,rfl,rfl,(by show (0:Int) < 20; decide),qi _ (by simp [worthW,c1,c2,e,c])⟩
      · exact ⟨_,rfl,_,_,rfl,rfl,⟨by decide,by decide,by decide⟩,_,_,rfl,rfl,_,_,rfl,rfl,(by show (0:Int) < 10 ^ 9 + 1; decide),qi _ (by simp [worthW,c1,c2,e,c])⟩
    refine ⟨_,rfl,rfl,_,rfl,iteEqI (fun e=>?_) (fun n2=>?_)⟩
    · refine ⟨_,rfl,_,_,rfl,rfl,p6,_,_,rfl,rfl,_,rfl,iteD (fun c=>?_) (fun c=>?_)⟩
      · exact ⟨_,rfl,_,_,rfl,rfl,(by show (0:Int) < 5; decide),_,_,rfl,rfl,qi _ (by simp [worthW,c1,c2,e,c])⟩
      · exact ⟨_,rfl,_,_,rfl,rfl,⟨by decide,by decide,by decide⟩,_,_,rfl,rfl,(by show (0:Int) < 10 ^ 30; decide),qi _ (by simp [worthW,c1,c2,e,c])⟩
    refine ⟨_,rfl,rfl,_,rfl,iteEqI (fun e=>?_) (fun n3=>?_)⟩
    · refine ⟨_,rfl,_,_,rfl,rfl,⟨by decide,by decide⟩,_,_,rfl,rfl,(by show (0:Int) < 12; decide),_,_,rfl,rfl,?_⟩
      have b1:0≤cell / 6 / 7 % 12:=Int.emod_nonneg _ (by decide)
      have b2:cell / 6 / 7 % 12 < 12:=Int.emod_lt_of_pos _ (by decide)
      refine ⟨_,rfl,_,rfl,_,_,rfl,rfl,_,_,rfl,rfl,(by show (0:Int) < 1 + cell / 6 / 7 % 12 + 1; omega),_,rfl,_,_,rfl,Int.emod_nonneg _ (by omega),by omega,fun v H' s' w'=>q v H' s' ?_⟩
      rw [show worthW which m cell=shareW (cell / 6 % (1 + cell / 6 / 7 % 12 + 1)) (1 + cell / 6 / 7 % 12) by simp [worthW,c1,c2,e]]
      exact w'
    refine ⟨_,rfl,rfl,_,rfl,iteEqI (fun e=>?_) (fun n4=>?_)⟩
    · have b1:0≤cell / 6 / 9 % 12:=Int.emod_nonneg _ (by decide)
      have b2:cell / 6 / 9 % 12 < 12:=Int.emod_lt_of_pos _ (by decide)
      refine ⟨_,rfl,_,_,rfl,rfl,(by show (0:Int) < 9; decide),_,rfl,_,_,rfl,rfl,⟨by decide,by decide⟩,_,_,rfl,rfl,(by show (0:Int) < 12; decide),_,_,rfl,rfl,_,_,rfl,Int.emod_nonneg _ (by decide),by omega,fun v H' s' w'=>q v H' s' ?_⟩
      rw [show worthW which m cell=shareW (cell / 6 % 9) (1 + cell / 6 / 9 % 12) by simp [worthW,c1,c2,e]]
      exact w'
    refine ⟨_,rfl,rfl,_,rfl,iteEqI (fun e=>?_) (fun n5=>?_)⟩
    · refine ⟨_,rfl,_,_,rfl,rfl,p6,_,_,rfl,rfl,_,rfl,iteD (fun c=>?_) (fun c=>?_)⟩
      · exact ⟨_,rfl,_,_,rfl,rfl,(by show (0:Int) < 16; decide),qi _ (by simp [worthW,c1,c2,e,c])⟩
      · exact ⟨_,rfl,_,_,rfl,rfl,⟨by decide,by decide,by decide⟩,_,_,rfl,rfl,(by show (0:Int) < 10 ^ 30; decide),qi _ (by simp [worthW,c1,c2,e,c])⟩
    have p:(0:Int) < 1 * 2 ^ m.toNat:=by rw [Int.one_mul]; exact Int.pow_pos (by decide)
    exact ⟨_,rfl,_,rfl,_,_,rfl,rfl,⟨by omega,by omega,by decide⟩,_,_,rfl,rfl,p,qi _ (by simp [worthW,c1,c2,n0,n1,n2,n3,n4,n5])⟩
theorem kdOf_ok {which m:Int} (m1:1≤m) (m2:m≤12):KdOk (kdOf which m):=by
  unfold kdOf
  repeat' split
  all_goals first | trivial | exact ⟨by omega,by omega⟩
def spLaw (K:PySem.W.Frag):Sp:=fun vs H Q _=>∃ (sa:Addr) (ns:List Int),vs=[.ref sa]∧SqL K H sa (ns.map V.int)∧ns.length≤63∧∀ H',Q (.bl true) H'
end
end K14
namespace K14
open PySem L2 Ws
seal PE PT PW PA PC PS PSs PG PGs PI PO
section
variable {P : Program} {w : World} {K : PySem.W.Frag} {mg : Str → Option Value} {base : Heap} {a : Adr}
theorem hasK (kd:Kd):HasK kd:=by cases kd <;> trivial
theorem kfs_no (kd:Kd) {x:Str} (h:(x == ("m":Str))=false):(kfs kd).lookup x=none:=by
  cases kd <;> first | rfl | (simp only [kfs,List.lookup,h])
theorem counted_is {H:Hp} {v:V} {x:Car .counted} (h:IsW H v (enc .counted x)):∃ i:Int,v=.int i∧enc .counted x=.int i∧((i=-1∧x=none)∨∃ n:Nat,i=n∧x=some n):=by
  rcases x with _ | n
  · exact ⟨_,isW_int h,rfl,.inl ⟨rfl,rfl⟩⟩
  · exact ⟨_,isW_int h,rfl,.inr ⟨n,rfl,rfl⟩⟩
theorem counted_zero {x y:Option Nat} {i:Int} (hx:(i=-1∧x=none)∨∃ n:Nat,i=n∧x=some n) (z:i=0):enc .counted (oMul x y)=.int 0:=by
  obtain ⟨n,e,rfl⟩:=hx.resolve_left (fun e=>by omega)
  obtain rfl:n=0:=by omega
  rw [oMul_zero]; rfl
theorem counted_endless {x y:Option Nat} {i j:Int} (hx:(i=-1∧x=none)∨∃ n:Nat,i=n∧x=some n) (hy:(j=-1∧y=none)∨∃ n:Nat,j=n∧y=some n) (zi:i≠0) (zj:j≠0) (h:i=-1∨j=-1) :
    enc .counted (oMul x y)=.int (-1):=by
  rcases hx with ⟨_,rfl⟩ | ⟨n,e,rfl⟩
  · rcases hy with ⟨_,rfl⟩ | ⟨k,e',rfl⟩
    · rfl
    · obtain ⟨k,rfl⟩:∃ l,k=l + 1:=⟨k - 1,by omega⟩
      rfl
  · rcases hy with ⟨_,rfl⟩ | ⟨k,e',rfl⟩
    · obtain ⟨n,rfl⟩:∃ l,n=l + 1:=⟨n - 1,by omega⟩
      rfl
    · omega
theorem counted_prod {x y:Option Nat} {i j:Int} (hx:(i=-1∧x=none)∨∃ n:Nat,i=n∧x=some n) (hy:(j=-1∧y=none)∨∃ n:Nat,j=n∧y=some n) (zi:i≠-1) (zj:j≠-1) :
    enc .counted (oMul x y)=.int (i * j):=by
  obtain ⟨n,rfl,rfl⟩:=hx.resolve_left (fun e=>zi e.1)
  obtain ⟨k,rfl,rfl⟩:=hy.resolve_left (fun e=>zj e.1)
  rw [oMul_some]
  show Wd.int ((n * k:Nat):Int)=_
  rw [Int.natCast_mul]
def spLowest:Sp:=fun vs H Q _=>∃ t b:Int,vs=[.int t,.int b]∧0 < b∧∀ v H',Same H H'→IsW H' v (shareW t b)→Q v H'
theorem sc_lowest:FnScope ["first","second","common"] ["first","second"] (defScope (top 26)):=⟨rfl,rfl,rfl,by decide +kernel,rfl,by decide +kernel,by decide +kernel⟩
theorem d_lowest (hP:P.given.tree=none) (D_divisor:Dn P w K mg base 1 "divisor" ["first","second"] spDivisor) (F:DefAt K mg "lowest" (top 26)):Dn P w K mg base 33 "lowest" ["first","second"] spLowest:=by
  obtain ⟨f,fd,hm,F⟩:=F.ex
  refine ⟨f,fd,hm,F.kp,F.binds fun _ _ _ _ _ _ us hl=>match us,hl with | [_,_],_=>rfl,?_⟩
  refine F.okN sc_lowest (fun vs H Q E h=>?_) (fun cdv A outer s H vs Q E hr h=>?_)
  · obtain ⟨_,_,rfl,_⟩:=h
    rfl
  · obtain ⟨t,b,rfl,hb,q⟩:=h
    have hd:(A.deeper (PyProof.Rows.envOfC "lowest" (defScope (top 26)) s.heap.objs.size f cdv)).depth + 100 < recursionLimit:=by have:=hr.dp; omega
    refine ⟨_,(pss_cons (ps_set (i:=2) sc_lowest.nd rfl (Or.inl rfl) (pe_callD D_divisor (hr.mono (by decide)) rfl passE0 (pa_cons (hs:=st_Name) (pv 0) (pa_cons (hs:=st_Name) (pv 1) pa_nil))))
      (pss_one (ps_ret (pe_tup (pa_cons (hs:=st_BinOp) (pe_op (op_fdivA hP hd rfl rfl rfl) (pv 0) (pv 2)) (pa_cons (hs:=st_BinOp) (pe_op (op_fdivA hP hd rfl rfl rfl) (pv 1) (pv 2)) pa_nil)))))),?_⟩
    have gp:=gcd_pos (a:=t) hb
    refine ⟨_,rfl,_,rfl,t,b,rfl,hb,?_⟩
    refine ⟨_,rfl,_,rfl,_,_,rfl,rfl,gp,_,rfl,_,rfl,_,_,rfl,rfl,gp,(by show 2≤sizeLine; decide),fun p np=>?_⟩
    exact q (.ref p) _ (same_one np) upd_same
def spTwo (f:Rat→Rat→Rat):Sp:=fun vs H Q _=>∃ (v1 v2:V) (p q:Rat),vs=[v1,v2]∧IsW H v1 (ofR p)∧IsW H v2 (ofR q)∧Sm Big (ofR p)∧Sm Big (ofR q)∧∀ v H',Same H H'→IsW H' v (ofR (f p q))→Q v H'
theorem sc_added:FnScope ["one","other"] ["one","other"] (defScope (top 27)):=⟨rfl,rfl,rfl,by decide +kernel,rfl,by decide +kernel,by decide +kernel⟩
theorem d_added (D_lowest:Dn P w K mg base 33 "lowest" ["first","second"] spLowest) (F:DefAt K mg "added" (top 27)):Dn P w K mg base 34 "added" ["one","other"] (spTwo fun p q=>p + q):=by
  obtain ⟨f,fd,hm,F⟩:=F.ex
  refine ⟨f,fd,hm,F.kp,F.binds fun _ _ _ _ _ _ us hl=>match us,hl with | [_,_],_=>rfl,?_⟩
  refine F.okN sc_added (fun vs H Q E h=>?_) (fun cdv A outer s H vs Q E hr h=>?_)
  · obtain ⟨_,_,_,_,rfl,_⟩:=h
    rfl
  · obtain ⟨v1,v2,p,q,rfl,h1,h2,s1,s2,k⟩:=h
    obtain ⟨r1,rfl,e1⟩:=isW_pair h1
    obtain ⟨r2,rfl,e2⟩:=isW_pair h2
    refine ⟨_,(pss_one (ps_ret (pe_callD D_lowest (hr.mono (by decide)) rfl passE0 (pa_cons (hs:=st_BinOp) (pe_op op_add (pe_op op_mulX (pe_ix ix_tup (pv 0) pe_int (fun _ _=>rfl)) (pe_ix ix_tup (pv 1) pe_int (fun _ _=>rfl))) (pe_op op_mulX (pe_ix ix_tup (pv 1) pe_int (fun _ _=>rfl)) (pe_ix ix_tup (pv 0) pe_int (fun _ _=>rfl)))) (pa_cons (hs:=st_BinOp) (pe_op op_mulX (pe_ix ix_tup (pv 0) pe_int (fun _ _=>rfl)) (pe_ix ix_tup (pv 1) pe_int (fun _ _=>rfl))) pa_nil))))),?_⟩
    refine ⟨_,rfl,r1,_,_,_,rfl,rfl,SqT.of e1,rfl,_,rfl,r2,_,_,_,rfl,rfl,SqT.of e2,rfl,_,_,rfl,rfl,big_mul s1.1 s2.2,?_⟩
    refine ⟨_,rfl,r2,_,_,_,rfl,rfl,SqT.of e2,rfl,_,rfl,r1,_,_,_,rfl,rfl,SqT.of e1,rfl,_,_,rfl,rfl,big_mul s2.1 s1.2,_,_,rfl,rfl,?_⟩
    refine ⟨_,rfl,r1,_,_,_,rfl,rfl,SqT.of e1,rfl,_,rfl,r2,_,_,_,rfl,rfl,SqT.of e2,rfl,_,_,rfl,rfl,big_mul s1.2 s2.2,?_⟩
    refine ⟨_,_,rfl,Int.mul_pos (den_pos p) (den_pos q),fun v H' s' hv=>k v H' s' ?_⟩
    rw [add_shareW] at hv
    exact hv
theorem sc_multiplied:FnScope ["one","other","left","right"] ["one","other"] (defScope (top 28)):=⟨rfl,rfl,rfl,by decide +kernel,rfl,by decide +kernel,by decide +kernel⟩
theorem d_multiplied (D_lowest:Dn P w K mg base 33 "lowest" ["first","second"] spLowest) (F:DefAt K mg "multiplied" (top 28)):Dn P w K mg base 34 "multiplied" ["one","other"] (spTwo fun p q=>p * q):=by
  obtain ⟨f,fd,hm,F⟩:=F.ex
  refine ⟨f,fd,hm,F.kp,F.binds fun _ _ _ _ _ _ us hl=>match us,hl with | [_,_],_=>rfl,?_⟩
  refine F.okN sc_multiplied (fun vs H Q E h=>?_) (fun cdv A outer s H vs Q E hr h=>?_)
  · obtain ⟨_,_,_,_,rfl,_⟩:=h
    rfl
  · obtain ⟨v1,v2,p,q,rfl,h1,h2,s1,s2,k⟩:=h
    obtain ⟨r1,rfl,e1⟩:=isW_pair h1
    obtain ⟨r2,rfl,e2⟩:=isW_pair h2
    refine ⟨_,(pss_cons (ps_set (i:=2) sc_multiplied.nd rfl (Or.inl rfl) (pe_callD D_lowest (hr.mono (by decide)) rfl passE0 (pa_cons (hs:=st_Subscript) (pe_ix ix_tup (pv 0) pe_int (fun _ _=>rfl)) (pa_cons (hs:=st_Subscript) (pe_ix ix_tup (pv 1) pe_int (fun _ _=>rfl)) pa_nil))))
      (pss_cons (ps_set (i:=3) sc_multiplied.nd rfl (Or.inl rfl) (pe_callD D_lowest (hr.mono (by decide)) rfl passE0 (pa_cons (hs:=st_Subscript) (pe_ix ix_tup (pv 1) pe_int (fun _ _=>rfl)) (pa_cons (hs:=st_Subscript) (pe_ix ix_tup (pv 0) pe_int (fun _ _=>rfl)) pa_nil))))
      (pss_one (ps_ret (pe_tup (pa_cons (hs:=st_BinOp) (pe_op op_mulX (pe_ix ix_tup (pv 2) pe_int (fun _ _=>rfl)) (pe_ix ix_tup (pv 3) pe_int (fun _ _=>rfl))) (pa_cons (hs:=st_BinOp) (pe_op op_mulX (pe_ix ix_tup (pv 2) pe_int (fun _ _=>rfl)) (pe_ix ix_tup (pv 3) pe_int (fun _ _=>rfl))) pa_nil))))))),?_⟩
    refine ⟨_,rfl,r1,_,_,_,rfl,rfl,SqT.of e1,rfl,_,rfl,r2,_,_,_,rfl,rfl,SqT.of e2,rfl,_,_,rfl,den_pos q,fun v3 H3 s3 h3=>?_⟩
    obtain ⟨r3,rfl,e3⟩:=isW_pair h3
    refine ⟨_,rfl,r2,_,_,_,rfl,rfl,SqT.of (s3 _ _ e2),rfl,_,rfl,r1,_,_,_,rfl,rfl,SqT.of (s3 _ _ e1),rfl,_,_,rfl,den_pos p,fun v4 H4 s4 h4=>?_⟩
    obtain ⟨r4,rfl,e4⟩:=isW_pair h4
    have sm:∀ {i j:Int},Builtin.Int.intBits i≤Big→Builtin.Int.intBits (i / j)≤Big:=fun {i j} h=>intBits_le_of_natAbs (Int.natAbs_ediv_le_natAbs i j) h
    refine ⟨_,rfl,r3,_,_,_,rfl,rfl,SqT.of (s4 _ _ e3),rfl,_,rfl,r4,_,_,_,rfl,rfl,SqT.of e4,rfl,_,_,rfl,rfl,big_mul (sm s1.1) (sm s2.1),?_⟩
    refine ⟨_,rfl,r3,_,_,_,rfl,rfl,SqT.of (s4 _ _ e3),rfl,_,rfl,r4,_,_,_,rfl,rfl,SqT.of e4,rfl,_,_,rfl,rfl,big_mul (sm s2.2) (sm s1.2),(by show 2≤sizeLine; decide),fun p5 np=>?_⟩
    refine k (.ref p5) _ ((s3.trans s4).trans (same_one np)) ?_
    show IsW _ _ (ofR (p * q))
    rw [← mul_cross]
    exact upd_same
theorem sc_greater:FnScope ["one","other"] ["one","other"] (defScope (top 29)):=⟨rfl,rfl,rfl,by decide +kernel,rfl,by decide +kernel,by decide +kernel⟩
theorem d_greater (F:DefAt K mg "greater" (top 29)):Dn P w K mg base 1 "greater" ["one","other"] (spTwo rmax):=by
  obtain ⟨f,fd,hm,F⟩:=F.ex
  refine ⟨f,fd,hm,F.kp,F.binds fun _ _ _ _ _ _ us hl=>match us,hl with | [_,_],_=>rfl,?_⟩
  refine F.okN sc_greater (fun vs H Q E h=>?_) (fun cdv A outer s H vs Q E hr h=>?_)
  · obtain ⟨_,_,_,_,rfl,_⟩:=h
    rfl
  · obtain ⟨v1,v2,p,q,rfl,h1,h2,s1,s2,k⟩:=h
    obtain ⟨r1,rfl,e1⟩:=isW_pair h1
    obtain ⟨r2,rfl,e2⟩:=isW_pair h2
    refine ⟨_,(pss_cons (ps_if (pt_cmpR op_lt (pe_op op_mulX (pe_ix ix_tup (pv 0) pe_int (fun _ _=>rfl)) (pe_ix ix_tup (pv 1) pe_int (fun _ _=>rfl))) (pe_op op_mulX (pe_ix ix_tup (pv 1) pe_int (fun _ _=>rfl)) (pe_ix ix_tup (pv 0) pe_int (fun _ _=>rfl))) (nomark _)) (pss_one (ps_ret (pv 1))) pss_nil)
      (pss_one (ps_ret (pv 0)))),?_⟩
    refine ⟨_,rfl,r1,_,_,_,rfl,rfl,SqT.of e1,rfl,_,rfl,r2,_,_,_,rfl,rfl,SqT.of e2,rfl,_,_,rfl,rfl,big_mul s1.1 s2.2,?_⟩
    refine ⟨_,rfl,r2,_,_,_,rfl,rfl,SqT.of e2,rfl,_,rfl,r1,_,_,_,rfl,rfl,SqT.of e1,rfl,_,_,rfl,rfl,big_mul s2.1 s1.2,_,_,rfl,rfl,_,rfl,?_⟩
    refine iteD (fun c=>?_) (fun c=>?_)
    · refine ⟨_,rfl,k _ _ (Same.refl H) ?_⟩
      show IsW H _ (ofR (rmax p q))
      rw [show rmax p q=q from if_pos ((lt_cross p q).mp c)]
      exact h2
    · refine ⟨_,rfl,k _ _ (Same.refl H) ?_⟩
      show IsW H _ (ofR (rmax p q))
      rw [show rmax p q=p from if_neg (fun z=>c ((lt_cross p q).mpr z))]
      exact h1
def spLack:Sp:=fun vs H Q _=>∃ (v:V) (p:Rat),vs=[v]∧IsW H v (ofR p)∧∀ v H',Same H H'→IsW H' v (ofR (1 - p))→Q v H'
theorem sc_lacking_to_one:FnScope ["share"] ["share"] (defScope (top 30)):=⟨rfl,rfl,rfl,by decide +kernel,rfl,by decide +kernel,by decide +kernel⟩
theorem d_lacking (D_lowest:Dn P w K mg base 33 "lowest" ["first","second"] spLowest) (F:DefAt K mg "lacking_to_one" (top 30)):Dn P w K mg base 34 "lacking_to_one" ["share"] spLack:=by
  obtain ⟨f,fd,hm,F⟩:=F.ex
  refine ⟨f,fd,hm,F.kp,F.binds fun _ _ _ _ _ _ us hl=>match us,hl with | [_],_=>rfl,?_⟩
  refine F.okN sc_lacking_to_one (fun vs H Q E h=>?_) (fun cdv A outer s H vs Q E hr h=>?_)
  · obtain ⟨_,_,rfl,_⟩:=h
    rfl
  · obtain ⟨v,p,rfl,h1,k⟩:=h
    obtain ⟨r1,rfl,e1⟩:=isW_pair h1
    refine ⟨_,(pss_one (ps_ret (pe_callD D_lowest (hr.mono (by decide)) rfl passE0 (pa_cons (hs:=st_BinOp) (pe_op op_sub (pe_ix ix_tup (pv 0) pe_int (fun _ _=>rfl)) (pe_ix ix_tup (pv 0) pe_int (fun _ _=>rfl))) (pa_cons (hs:=st_Subscript) (pe_ix ix_tup (pv 0) pe_int (fun _ _=>rfl)) pa_nil))))),?_⟩
    refine ⟨_,rfl,r1,_,_,_,rfl,rfl,SqT.of e1,rfl,_,rfl,r1,_,_,_,rfl,rfl,SqT.of e1,rfl,_,_,rfl,rfl,?_⟩
    refine ⟨_,rfl,r1,_,_,_,rfl,rfl,SqT.of e1,rfl,?_⟩
    refine ⟨_,_,rfl,den_pos p,fun v H' s' hv=>k v H' s' ?_⟩
    rw [lack_shareW] at hv
    exact hv
theorem cpow_nat {r b:Nat} (h:r < 2 ^ 12) (hb:b≤12):CPow (r:Int) (b:Int):=by
  have:(2:Nat) ^ 12 < 2 ^ 64:=by decide
  exact ⟨by omega,by omega,by rw [Int.natAbs_natCast]; omega⟩
theorem cpow_one {b:Nat} (hb:b≤12):CPow 1 (b:Int):=⟨by omega,by omega,by decide⟩
def spRaised:Sp:=fun vs H Q _=>∃ r b m:Nat,vs=[.int r,.int b,.int m]∧r < 2 ^ 12∧b≤12∧m≤12∧Q (.int (raisedN m r b:Nat)) H
theorem sc_raised:FnScope ["rests","by","m","pushed"] ["rests","by","m"] (defScope (top 35)):=⟨rfl,rfl,rfl,by decide +kernel,rfl,by decide +kernel,by decide +kernel⟩
theorem d_raised (F:DefAt K mg "raised" (top 35)):Dn P w K mg base 1 "raised" ["rests","by","m"] spRaised:=by
  obtain ⟨f,fd,hm,F⟩:=F.ex
  refine ⟨f,fd,hm,F.kp,F.binds fun _ _ _ _ _ _ us hl=>match us,hl with | [_,_,_],_=>rfl,?_⟩
  refine F.okN sc_raised (fun vs H Q E h=>?_) (fun cdv A outer s H vs Q E hr h=>?_)
  · obtain ⟨_,_,_,rfl,_⟩:=h
    rfl
  · obtain ⟨r,b,m,rfl,h1,h2,h3,q⟩:=h
    refine ⟨_,(pss_cons (ps_set (i:=3) sc_raised.nd rfl (Or.inl rfl) (pe_op op_shl (pv 0) (pv 1)))
      (pss_one (ps_ret (pe_op op_or (pe_op op_and (pv 3) (pe_op op_sub (pe_op op_shl pe_int (pv 2)) pe_int)) (pe_op op_shr (pv 3) (pv 2)))))),?_⟩
    refine ⟨_,rfl,_,rfl,_,_,rfl,rfl,cpow_nat h1 h2,?_⟩
    refine ⟨_,rfl,_,rfl,_,_,rfl,rfl,cpow_one h3,_,_,rfl,rfl,_,_,rfl,rfl,_,rfl,_,rfl,_,_,rfl,rfl,Int.natCast_nonneg m,_,_,rfl,rfl,?_⟩
    dsimp only
    rw [mask_nat,shl_nat,bitAnd_nat,shr_nat,bitOr_nat]
    exact q
end
end K14
namespace K14
open PySem L2 Ws
seal PE PT PW PA PC PS PSs PG PGs PI PO
section
variable {P : Program} {w : World} {K : PySem.W.Frag} {mg : Str → Option Value} {base : Heap} {a : Adr}
def spZero (a:Adr) (kd:Kd):Sp:=fun vs H Q _=>∃ (p:Addr) (ok:KdOk kd),vs=[.ref p]∧KindAt a H p kd∧∀ v H',Same H H'→IsW H' v (enc kd (ks kd ok).zero)→Q v H'
def spOne (a:Adr) (kd:Kd):Sp:=fun vs H Q _=>∃ (p:Addr) (ok:KdOk kd),vs=[.ref p]∧KindAt a H p kd∧∀ v H',Same H H'→IsW H' v (enc kd (ks kd ok).one)→Q v H'
theorem sc_Fewest_none:FnScope ["self"] ["self"] (defScope (inClass (top 37) 0)):=⟨rfl,rfl,rfl,by decide +kernel,rfl,by decide +kernel,by decide +kernel⟩
theorem sc_Widest_none:FnScope ["self"] ["self"] (defScope (inClass (top 38) 0)):=⟨rfl,rfl,rfl,by decide +kernel,rfl,by decide +kernel,by decide +kernel⟩
theorem sc_Counted_none:FnScope ["self"] ["self"] (defScope (inClass (top 39) 0)):=⟨rfl,rfl,rfl,by decide +kernel,rfl,by decide +kernel,by decide +kernel⟩
theorem sc_Likeliest_none:FnScope ["self"] ["self"] (defScope (inClass (top 40) 0)):=⟨rfl,rfl,rfl,by decide +kernel,rfl,by decide +kernel,by decide +kernel⟩
theorem sc_Chances_none:FnScope ["self"] ["self"] (defScope (inClass (top 41) 0)):=⟨rfl,rfl,rfl,by decide +kernel,rfl,by decide +kernel,by decide +kernel⟩
theorem sc_Musts_none:FnScope ["self"] ["self"] (defScope (inClass (top 42) 0)):=⟨rfl,rfl,rfl,by decide +kernel,rfl,by decide +kernel,by decide +kernel⟩
theorem sc_Rests_none:FnScope ["self"] ["self"] (defScope (inClass (top 43) 1)):=⟨rfl,rfl,rfl,by decide +kernel,rfl,by decide +kernel,by decide +kernel⟩
structure At_none (K:PySem.W.Frag) (a:Adr):Prop where
  fFewest:MthAt K a.cFewest "none" "Fewest.none" (inClass (top 37) 0)
  fWidest:MthAt K a.cWidest "none" "Widest.none" (inClass (top 38) 0)
  fCounted:MthAt K a.cCounted "none" "Counted.none" (inClass (top 39) 0)
  fLikeliest:MthAt K a.cLikeliest "none" "Likeliest.none" (inClass (top 40) 0)
  fChances:MthAt K a.cChances "none" "Chances.none" (inClass (top 41) 0)
  fMusts:MthAt K a.cMusts "none" "Musts.none" (inClass (top 42) 0)
  fRests:MthAt K a.cRests "none" "Rests.none" (inClass (top 43) 1)
theorem sc_Fewest_rest:FnScope ["self"] ["self"] (defScope (inClass (top 37) 1)):=⟨rfl,rfl,rfl,by decide +kernel,rfl,by decide +kernel,by decide +kernel⟩
theorem sc_Widest_rest:FnScope ["self"] ["self"] (defScope (inClass (top 38) 1)):=⟨rfl,rfl,rfl,by decide +kernel,rfl,by decide +kernel,by decide +kernel⟩
theorem sc_Counted_rest:FnScope ["self"] ["self"] (defScope (inClass (top 39) 1)):=⟨rfl,rfl,rfl,by decide +kernel,rfl,by decide +kernel,by decide +kernel⟩
theorem sc_Likeliest_rest:FnScope ["self"] ["self"] (defScope (inClass (top 40) 1)):=⟨rfl,rfl,rfl,by decide +kernel,rfl,by decide +kernel,by decide +kernel⟩
theorem sc_Chances_rest:FnScope ["self"] ["self"] (defScope (inClass (top 41) 1)):=⟨rfl,rfl,rfl,by decide +kernel,rfl,by decide +kernel,by decide +kernel⟩
theorem sc_Musts_rest:FnScope ["self"] ["self"] (defScope (inClass (top 42) 1)):=⟨rfl,rfl,rfl,by decide +kernel,rfl,by decide +kernel,by decide +kernel⟩
theorem sc_Rests_rest:FnScope ["self"] ["self"] (defScope (inClass (top 43) 2)):=⟨rfl,rfl,rfl,by decide +kernel,rfl,by decide +kernel,by decide +kernel⟩
structure At_rest (K:PySem.W.Frag) (a:Adr):Prop where
  fFewest:MthAt K a.cFewest "rest" "Fewest.rest" (inClass (top 37) 1)
  fWidest:MthAt K a.cWidest "rest" "Widest.rest" (inClass (top 38) 1)
  fCounted:MthAt K a.cCounted "rest" "Counted.rest" (inClass (top 39) 1)
  fLikeliest:MthAt K a.cLikeliest "rest" "Likeliest.rest" (inClass (top 40) 1)
  fChances:MthAt K a.cChances "rest" "Chances.rest" (inClass (top 41) 1)
  fMusts:MthAt K a.cMusts "rest" "Musts.rest" (inClass (top 42) 1)
  fRests:MthAt K a.cRests "rest" "Rests.rest" (inClass (top 43) 2)
theorem len_zero {kd:Kd} {vs:List V} {H:Hp} {Q:VK} {E:XK} (h:spZero a kd vs H Q E):vs.length=1:=by
  obtain ⟨_,_,rfl,_⟩:=h
  rfl
theorem len_one {kd:Kd} {vs:List V} {H:Hp} {Q:VK} {E:XK} (h:spOne a kd vs H Q E):vs.length=1:=by
  obtain ⟨_,_,rfl,_⟩:=h
  rfl
theorem v_none (T:Tx K mg a) (F:At_none K a):Mth P w K mg base 1 a.cl "none" ["self"] (fun i=>spZero a i.1):=by
  refine ⟨fun ⟨kd,hk⟩=>?_⟩
  cases kd with
  | fewest =>
    refine m_of hk T F.fFewest (fun _ _ _ _ _ _ us hl=>match us,hl with | [_],_=>rfl) fun f fd F=>F.okN sc_Fewest_none (fun _ _ _ _=>len_zero) (fun cdv A outer s H vs Q E hr h=>?_)
    obtain ⟨p,ok,rfl,_,q⟩:=h
    exact ⟨_,(pss_one (ps_ret pe_non)),q _ _ (Same.refl H) True.intro⟩
  | widest =>
    refine m_of hk T F.fWidest (fun _ _ _ _ _ _ us hl=>match us,hl with | [_],_=>rfl) fun f fd F=>F.okN sc_Widest_none (fun _ _ _ _=>len_zero) (fun cdv A outer s H vs Q E hr h=>?_)
    obtain ⟨p,ok,rfl,_,q⟩:=h
    exact ⟨_,(pss_one (ps_ret pe_int)),q _ _ (Same.refl H) rfl⟩
  | counted =>
    refine m_of hk T F.fCounted (fun _ _ _ _ _ _ us hl=>match us,hl with | [_],_=>rfl) fun f fd F=>F.okN sc_Counted_none (fun _ _ _ _=>len_zero) (fun cdv A outer s H vs Q E hr h=>?_)
    obtain ⟨p,ok,rfl,_,q⟩:=h
    exact ⟨_,(pss_one (ps_ret pe_int)),q _ _ (Same.refl H) rfl⟩
  | likeliest =>
    refine m_of hk T F.fLikeliest (fun _ _ _ _ _ _ us hl=>match us,hl with | [_],_=>rfl) fun f fd F=>F.okN sc_Likeliest_none (fun _ _ _ _=>len_zero) (fun cdv A outer s H vs Q E hr h=>?_)
    obtain ⟨p,ok,rfl,_,q⟩:=h
    exact ⟨_,(pss_one (ps_ret (pe_tup (pa_cons (hs:=st_Constant) pe_int (pa_cons (hs:=st_Constant) pe_int pa_nil))))),⟨(by show 2≤sizeLine; decide),fun p np=>q (.ref p) _ (same_one np) upd_same⟩⟩
  | chances =>
    refine m_of hk T F.fChances (fun _ _ _ _ _ _ us hl=>match us,hl with | [_],_=>rfl) fun f fd F=>F.okN sc_Chances_none (fun _ _ _ _=>len_zero) (fun cdv A outer s H vs Q E hr h=>?_)
    obtain ⟨p,ok,rfl,_,q⟩:=h
    exact ⟨_,(pss_one (ps_ret (pe_tup (pa_cons (hs:=st_Constant) pe_int (pa_cons (hs:=st_Constant) pe_int pa_nil))))),⟨(by show 2≤sizeLine; decide),fun p np=>q (.ref p) _ (same_one np) upd_same⟩⟩
  | musts =>
    refine m_of hk T F.fMusts (fun _ _ _ _ _ _ us hl=>match us,hl with | [_],_=>rfl) fun f fd F=>F.okN sc_Musts_none (fun _ _ _ _=>len_zero) (fun cdv A outer s H vs Q E hr h=>?_)
    obtain ⟨p,ok,rfl,_,q⟩:=h
    exact ⟨_,(pss_one (ps_ret pe_non)),q _ _ (Same.refl H) True.intro⟩
  | rests m =>
    refine m_of (kd:=.rests m) hk T F.fRests (fun _ _ _ _ _ _ us hl=>match us,hl with | [_],_=>rfl) fun f fd F=>F.okN sc_Rests_none (fun _ _ _ _=>len_zero) (fun cdv A outer s H vs Q E hr h=>?_)
    obtain ⟨p,ok,rfl,_,q⟩:=h
    exact ⟨_,(pss_one (ps_ret pe_int)),q _ _ (Same.refl H) rfl⟩
theorem v_rest (T:Tx K mg a) (F:At_rest K a):Mth P w K mg base 1 a.cl "rest" ["self"] (fun i=>spOne a i.1):=by
  refine ⟨fun ⟨kd,hk⟩=>?_⟩
  cases kd with
  | fewest =>
    refine m_of hk T F.fFewest (fun _ _ _ _ _ _ us hl=>match us,hl with | [_],_=>rfl) fun f fd F=>F.okN sc_Fewest_rest (fun _ _ _ _=>len_one) (fun cdv A outer s H vs Q E hr h=>?_)
    obtain ⟨p,ok,rfl,_,q⟩:=h
    exact ⟨_,(pss_one (ps_ret pe_int)),q _ _ (Same.refl H) rfl⟩
  | widest =>
    refine m_of hk T F.fWidest (fun _ _ _ _ _ _ us hl=>match us,hl with | [_],_=>rfl) fun f fd F=>F.okN sc_Widest_rest (fun _ _ _ _=>len_one) (fun cdv A outer s H vs Q E hr h=>?_)
    obtain ⟨p,ok,rfl,_,q⟩:=h
    exact ⟨_,(pss_one (ps_ret (pe_glob (v:=V.int 1000000000) rfl T.c_WIDEST ⟨_,rfl⟩))),q _ _ (Same.refl H) rfl⟩
  | counted =>
    refine m_of hk T F.fCounted (fun _ _ _ _ _ _ us hl=>match us,hl with | [_],_=>rfl) fun f fd F=>F.okN sc_Counted_rest (fun _ _ _ _=>len_one) (fun cdv A outer s H vs Q E hr h=>?_)
    obtain ⟨p,ok,rfl,_,q⟩:=h
    exact ⟨_,(pss_one (ps_ret pe_int)),q _ _ (Same.refl H) rfl⟩
  | likeliest =>
    refine m_of hk T F.fLikeliest (fun _ _ _ _ _ _ us hl=>match us,hl with | [_],_=>rfl) fun f fd F=>F.okN sc_Likeliest_rest (fun _ _ _ _=>len_one) (fun cdv A outer s H vs Q E hr h=>?_)
    obtain ⟨p,ok,rfl,_,q⟩:=h
    exact ⟨_,(pss_one (ps_ret (pe_tup (pa_cons (hs:=st_Constant) pe_int (pa_cons (hs:=st_Constant) pe_int pa_nil))))),⟨(by show 2≤sizeLine; decide),fun p np=>q (.ref p) _ (same_one np) upd_same⟩⟩
  | chances =>
    refine m_of hk T F.fChances (fun _ _ _ _ _ _ us hl=>match us,hl with | [_],_=>rfl) fun f fd F=>F.okN sc_Chances_rest (fun _ _ _ _=>len_one) (fun cdv A outer s H vs Q E hr h=>?_)
    obtain ⟨p,ok,rfl,_,q⟩:=h
    exact ⟨_,(pss_one (ps_ret (pe_tup (pa_cons (hs:=st_Constant) pe_int (pa_cons (hs:=st_Constant) pe_int pa_nil))))),⟨(by show 2≤sizeLine; decide),fun p np=>q (.ref p) _ (same_one np) upd_same⟩⟩
  | musts =>
    refine m_of hk T F.fMusts (fun _ _ _ _ _ _ us hl=>match us,hl with | [_],_=>rfl) fun f fd F=>F.okN sc_Musts_rest (fun _ _ _ _=>len_one) (fun cdv A outer s H vs Q E hr h=>?_)
    obtain ⟨p,ok,rfl,_,q⟩:=h
    exact ⟨_,(pss_one (ps_ret pe_int)),q _ _ (Same.refl H) rfl⟩
  | rests m =>
    refine m_of (kd:=.rests m) hk T F.fRests (fun _ _ _ _ _ _ us hl=>match us,hl with | [_],_=>rfl) fun f fd F=>F.okN sc_Rests_rest (fun _ _ _ _=>len_one) (fun cdv A outer s H vs Q E hr h=>?_)
    obtain ⟨p,ok,rfl,_,q⟩:=h
    exact ⟨_,(pss_one (ps_ret pe_int)),q _ _ (Same.refl H) rfl⟩
def spAdd (a:Adr) (kd:Kd):Sp:=fun vs H Q _=>∃ (p:Addr) (v1 v2:V) (ok:KdOk kd) (x y:Car kd),vs=[.ref p,v1,v2]∧KindAt a H p kd∧IsW H v1 (enc kd x)∧IsW H v2 (enc kd y)∧Sm Big (enc kd x)∧Sm Big (enc kd y) ∧
  ∀ v H',Same H H'→IsW H' v (enc kd ((ks kd ok).add x y))→Q v H'
def spMul (a:Adr) (kd:Kd):Sp:=fun vs H Q _=>∃ (p:Addr) (v1 v2:V) (ok:KdOk kd) (x y:Car kd),vs=[.ref p,v1,v2]∧KindAt a H p kd∧IsW H v1 (enc kd x)∧IsW H v2 (enc kd y)∧Sm Big (enc kd x)∧Sm Big (enc kd y) ∧
  ∀ v H',Same H H'→IsW H' v (enc kd ((ks kd ok).mul x y))→Q v H'
theorem len_add {kd:Kd} {vs:List V} {H:Hp} {Q:VK} {E:XK} (h:spAdd a kd vs H Q E):vs.length=3:=by
  obtain ⟨_,_,_,_,_,_,rfl,_⟩:=h
  rfl
theorem len_mul {kd:Kd} {vs:List V} {H:Hp} {Q:VK} {E:XK} (h:spMul a kd vs H Q E):vs.length=3:=by
  obtain ⟨_,_,_,_,_,_,rfl,_⟩:=h
  rfl
theorem sc_Fewest_together:FnScope ["self","one","other"] ["self","one","other"] (defScope (inClass (top 37) 3)):=⟨rfl,rfl,rfl,by decide +kernel,rfl,by decide +kernel,by decide +kernel⟩
theorem sc_Widest_together:FnScope ["self","one","other"] ["self","one","other"] (defScope (inClass (top 38) 3)):=⟨rfl,rfl,rfl,by decide +kernel,rfl,by decide +kernel,by decide +kernel⟩
theorem sc_Counted_together:FnScope ["self","one","other"] ["self","one","other"] (defScope (inClass (top 39) 3)):=⟨rfl,rfl,rfl,by decide +kernel,rfl,by decide +kernel,by decide +kernel⟩
theorem sc_Likeliest_together:FnScope ["self","one","other"] ["self","one","other"] (defScope (inClass (top 40) 3)):=⟨rfl,rfl,rfl,by decide +kernel,rfl,by decide +kernel,by decide +kernel⟩
theorem sc_Chances_together:FnScope ["self","one","other"] ["self","one","other"] (defScope (inClass (top 41) 3)):=⟨rfl,rfl,rfl,by decide +kernel,rfl,by decide +kernel,by decide +kernel⟩
theorem sc_Musts_together:FnScope ["self","one","other"] ["self","one","other"] (defScope (inClass (top 42) 3)):=⟨rfl,rfl,rfl,by decide +kernel,rfl,by decide +kernel,by decide +kernel⟩
theorem sc_Rests_together:FnScope ["self","one","other"] ["self","one","other"] (defScope (inClass (top 43) 4)):=⟨rfl,rfl,rfl,by decide +kernel,rfl,by decide +kernel,by decide +kernel⟩
structure At_together (K:PySem.W.Frag) (a:Adr):Prop where
  fFewest:MthAt K a.cFewest "together" "Fewest.together" (inClass (top 37) 3)
  fWidest:MthAt K a.cWidest "together" "Widest.together" (inClass (top 38) 3)
  fCounted:MthAt K a.cCounted "together" "Counted.together" (inClass (top 39) 3)
  fLikeliest:MthAt K a.cLikeliest "together" "Likeliest.together" (inClass (top 40) 3)
  fChances:MthAt K a.cChances "together" "Chances.together" (inClass (top 41) 3)
  fMusts:MthAt K a.cMusts "together" "Musts.together" (inClass (top 42) 3)
  fRests:MthAt K a.cRests "together" "Rests.together" (inClass (top 43) 4)
theorem sc_Fewest_behind:FnScope ["self","one","other"] ["self","one","other"] (defScope (inClass (top 37) 4)):=⟨rfl,rfl,rfl,by decide +kernel,rfl,by decide +kernel,by decide +kernel⟩
theorem sc_Widest_behind:FnScope ["self","one","other"] ["self","one","other"] (defScope (inClass (top 38) 4)):=⟨rfl,rfl,rfl,by decide +kernel,rfl,by decide +kernel,by decide +kernel⟩
theorem sc_Counted_behind:FnScope ["self","one","other"] ["self","one","other"] (defScope (inClass (top 39) 4)):=⟨rfl,rfl,rfl,by decide +kernel,rfl,by decide +kernel,by decide +kernel⟩
theorem sc_Likeliest_behind:FnScope ["self","one","other"] ["self","one","other"] (defScope (inClass (top 40) 4)):=⟨rfl,rfl,rfl,by decide +kernel,rfl,by decide +kernel,by decide +kernel⟩
theorem sc_Chances_behind:FnScope ["self","one","other"] ["self","one","other"] (defScope (inClass (top 41) 4)):=⟨rfl,rfl,rfl,by decide +kernel,rfl,by decide +kernel,by decide +kernel⟩
theorem sc_Musts_behind:FnScope ["self","one","other"] ["self","one","other"] (defScope (inClass (top 42) 4)):=⟨rfl,rfl,rfl,by decide +kernel,rfl,by decide +kernel,by decide +kernel⟩
theorem sc_Rests_behind:FnScope ["self","one","other","sums","by"] ["self","one","other"] (defScope (inClass (top 43) 5)):=⟨rfl,rfl,rfl,by decide +kernel,rfl,by decide +kernel,by decide +kernel⟩
structure At_behind (K:PySem.W.Frag) (a:Adr):Prop where
  fFewest:MthAt K a.cFewest "behind" "Fewest.behind" (inClass (top 37) 4)
  fWidest:MthAt K a.cWidest "behind" "Widest.behind" (inClass (top 38) 4)
  fCounted:MthAt K a.cCounted "behind" "Counted.behind" (inClass (top 39) 4)
  fLikeliest:MthAt K a.cLikeliest "behind" "Likeliest.behind" (inClass (top 40) 4)
  fChances:MthAt K a.cChances "behind" "Chances.behind" (inClass (top 41) 4)
  fMusts:MthAt K a.cMusts "behind" "Musts.behind" (inClass (top 42) 4)
  fRests:MthAt K a.cRests "behind" "Rests.behind" (inClass (top 43) 5)
theorem min_if (i j:Nat):(if (j:Int) < i then (j:Int) else i)=((min i j:Nat):Int):=by split <;> omega
theorem max_if (i j:Nat):(if (j:Int) > i then (j:Int) else i)=((max i j:Nat):Int):=by split <;> omega
theorem v_together (T:Tx K mg a) (D_greater:Dn P w K mg base 1 "greater" ["one","other"] (spTwo rmax)) (D_added:Dn P w K mg base 34 "added" ["one","other"] (spTwo fun p q=>p + q)) (F:At_together K a) :
    Mth P w K mg base 35 a.cl "together" ["self","one","other"] (fun i=>spAdd a i.1):=by
  refine ⟨fun ⟨kd,hk⟩=>?_⟩
  cases kd with
  | fewest =>
    refine m_of hk T F.fFewest (fun _ _ _ _ _ _ us hl=>match us,hl with | [_,_,_],_=>rfl) fun f fd F=>F.okN sc_Fewest_together (fun _ _ _ _=>len_add) (fun cdv A outer s H vs Q E hr h=>?_)
    obtain ⟨p,v1,v2,ok,x,y,rfl,_,h1,h2,s1,s2,q⟩:=h
    refine ⟨_,(pss_cons (ps_if (pt_cmp (pc_isN (pv 1))) (pss_one (ps_ret (pv 2))) pss_nil)
      (pss_cons (ps_if (pt_cmp (pc_isN (pv 2))) (pss_one (ps_ret (pv 1))) pss_nil)
      (pss_one (ps_ret (pe_callB (call_min2 rfl) rfl T.b_min bt_min (pa_cons (hs:=st_Name) (pv 1) (pa_cons (hs:=st_Name) (pv 2) pa_nil))))))),?_⟩
    rcases x with _ | i
    · obtain rfl:=isW_non h1
      exact ⟨_,rfl,_,rfl,iteT ⟨_,rfl,q _ _ (Same.refl H) (by cases y <;> exact h2)⟩⟩
    · obtain rfl:=isW_int h1
      refine ⟨_,rfl,_,rfl,iteF ?_⟩
      rcases y with _ | j
      · obtain rfl:=isW_non h2
        exact ⟨_,rfl,_,rfl,iteT ⟨_,rfl,q _ _ (Same.refl H) rfl⟩⟩
      · obtain rfl:=isW_int h2
        exact ⟨_,rfl,_,rfl,iteF ⟨_,rfl,_,rfl,_,_,rfl,q _ _ (Same.refl H) (min_if i j)⟩⟩
  | widest =>
    refine m_of hk T F.fWidest (fun _ _ _ _ _ _ us hl=>match us,hl with | [_,_,_],_=>rfl) fun f fd F=>F.okN sc_Widest_together (fun _ _ _ _=>len_add) (fun cdv A outer s H vs Q E hr h=>?_)
    obtain ⟨p,v1,v2,ok,x,y,rfl,_,h1,h2,s1,s2,q⟩:=h
    refine ⟨_,(pss_one (ps_ret (pe_callB (call_max2 rfl) rfl T.b_max bt_max (pa_cons (hs:=st_Name) (pv 1) (pa_cons (hs:=st_Name) (pv 2) pa_nil))))),?_⟩
    obtain rfl:=isW_int h1
    obtain rfl:=isW_int h2
    exact ⟨_,rfl,_,rfl,_,_,rfl,q _ _ (Same.refl H) (max_if x.1 y.1)⟩
  | counted =>
    refine m_of hk T F.fCounted (fun _ _ _ _ _ _ us hl=>match us,hl with | [_,_,_],_=>rfl) fun f fd F=>F.okN sc_Counted_together (fun _ _ _ _=>len_add) (fun cdv A outer s H vs Q E hr h=>?_)
    obtain ⟨p,v1,v2,ok,x,y,rfl,_,h1,h2,s1,s2,q⟩:=h
    refine ⟨_,(pss_cons (ps_if (PW.pt (pw_or (pt_cmpR op_eq (pv 1) (pe_un un_neg pe_int) (nomark _)) (pw_or1 (pt_cmpR op_eq (pv 2) (pe_un un_neg pe_int) (nomark _))))) (pss_one (ps_ret (pe_un un_neg pe_int))) pss_nil)
      (pss_one (ps_ret (pe_op op_add (pv 1) (pv 2))))),?_⟩
    rcases x with _ | i
    · obtain rfl:=isW_int h1
      exact ⟨_,rfl,_,rfl,rfl,_,rfl,iteT (iteT ⟨_,rfl,q _ _ (Same.refl H) (by cases y <;> rfl)⟩)⟩
    · obtain rfl:=isW_int h1
      refine ⟨_,rfl,_,rfl,rfl,_,rfl,iteEqI (fun z=>by omega) (fun _=>?_)⟩
      rcases y with _ | j
      · obtain rfl:=isW_int h2
        exact ⟨_,rfl,_,rfl,rfl,_,rfl,iteT ⟨_,rfl,q _ _ (Same.refl H) rfl⟩⟩
      · obtain rfl:=isW_int h2
        refine ⟨_,rfl,_,rfl,rfl,_,rfl,iteEqI (fun z=>by omega) (fun _=>?_)⟩
        exact ⟨_,rfl,_,rfl,_,_,rfl,rfl,q _ _ (Same.refl H) (by show (i:Int) + j=((i + j:Nat):Int); omega)⟩
  | likeliest =>
    refine m_of hk T F.fLikeliest (fun _ _ _ _ _ _ us hl=>match us,hl with | [_,_,_],_=>rfl) fun f fd F=>F.okN sc_Likeliest_together (fun _ _ _ _=>len_add) (fun cdv A outer s H vs Q E hr h=>?_)
    obtain ⟨p,v1,v2,ok,x,y,rfl,_,h1,h2,s1,s2,q⟩:=h
    exact ⟨_,(pss_one (ps_ret (pe_callD D_greater (hr.mono (by decide)) rfl passE0 (pa_cons (hs:=st_Name) (pv 1) (pa_cons (hs:=st_Name) (pv 2) pa_nil))))),⟨_,rfl,_,rfl,v1,v2,x.1,y.1,rfl,h1,h2,s1,s2,fun v H' s' hv=>q v H' s' hv⟩⟩
  | chances =>
    refine m_of hk T F.fChances (fun _ _ _ _ _ _ us hl=>match us,hl with | [_,_,_],_=>rfl) fun f fd F=>F.okN sc_Chances_together (fun _ _ _ _=>len_add) (fun cdv A outer s H vs Q E hr h=>?_)
    obtain ⟨p,v1,v2,ok,x,y,rfl,_,h1,h2,s1,s2,q⟩:=h
    exact ⟨_,(pss_one (ps_ret (pe_callD D_added (hr.mono (by decide)) rfl passE0 (pa_cons (hs:=st_Name) (pv 1) (pa_cons (hs:=st_Name) (pv 2) pa_nil))))),⟨_,rfl,_,rfl,v1,v2,x.1,y.1,rfl,h1,h2,s1,s2,fun v H' s' hv=>q v H' s' hv⟩⟩
  | musts =>
    refine m_of hk T F.fMusts (fun _ _ _ _ _ _ us hl=>match us,hl with | [_,_,_],_=>rfl) fun f fd F=>F.okN sc_Musts_together (fun _ _ _ _=>len_add) (fun cdv A outer s H vs Q E hr h=>?_)
    obtain ⟨p,v1,v2,ok,x,y,rfl,_,h1,h2,s1,s2,q⟩:=h
    refine ⟨_,(pss_cons (ps_if (pt_cmp (pc_isN (pv 1))) (pss_one (ps_ret (pv 2))) pss_nil)
      (pss_cons (ps_if (pt_cmp (pc_isN (pv 2))) (pss_one (ps_ret (pv 1))) pss_nil)
      (pss_one (ps_ret (pe_op op_and (pv 1) (pv 2)))))),?_⟩
    rcases x with _ | i
    · obtain rfl:=isW_non h1
      exact ⟨_,rfl,_,rfl,iteT ⟨_,rfl,q _ _ (Same.refl H) (by cases y <;> exact h2)⟩⟩
    · obtain rfl:=isW_int h1
      refine ⟨_,rfl,_,rfl,iteF ?_⟩
      rcases y with _ | j
      · obtain rfl:=isW_non h2
        exact ⟨_,rfl,_,rfl,iteT ⟨_,rfl,q _ _ (Same.refl H) rfl⟩⟩
      · obtain rfl:=isW_int h2
        exact ⟨_,rfl,_,rfl,iteF ⟨_,rfl,_,rfl,_,_,rfl,rfl,q _ _ (Same.refl H) (bitAnd_nat i j)⟩⟩
  | rests m =>
    refine m_of (kd:=.rests m) hk T F.fRests (fun _ _ _ _ _ _ us hl=>match us,hl with | [_,_,_],_=>rfl) fun f fd F=>F.okN sc_Rests_together (fun _ _ _ _=>len_add) (fun cdv A outer s H vs Q E hr h=>?_)
    obtain ⟨p,v1,v2,ok,x,y,rfl,_,h1,h2,s1,s2,q⟩:=h
    obtain rfl:=isW_int h1
    obtain rfl:=isW_int h2
    exact ⟨_,(pss_one (ps_ret (pe_op op_or (pv 1) (pv 2)))),⟨_,rfl,_,rfl,_,_,rfl,rfl,q _ _ (Same.refl H) (bitOr_nat x.1 y.1)⟩⟩
theorem pow12 {m n:Nat} (h:m≤12) (hn:n < 2 ^ m):n < 2 ^ 12:=Nat.lt_of_lt_of_le hn (Nat.pow_le_pow_right (by decide) h)
theorem v_behind (T:Tx K mg a) (D_multiplied:Dn P w K mg base 34 "multiplied" ["one","other"] (spTwo fun p q=>p * q)) (D_raised:Dn P w K mg base 1 "raised" ["rests","by","m"] spRaised) (F:At_behind K a) :
    Mth P w K mg base 35 a.cl "behind" ["self","one","other"] (fun i=>spMul a i.1):=by
  refine ⟨fun ⟨kd,hk⟩=>?_⟩
  cases kd with
  | fewest =>
    refine m_of hk T F.fFewest (fun _ _ _ _ _ _ us hl=>match us,hl with | [_,_,_],_=>rfl) fun f fd F=>F.okN sc_Fewest_behind (fun _ _ _ _=>len_mul) (fun cdv A outer s H vs Q E hr h=>?_)
    obtain ⟨p,v1,v2,ok,x,y,rfl,_,h1,h2,s1,s2,q⟩:=h
    refine ⟨_,(pss_cons (ps_if (PW.pt (pw_or (pt_cmp (pc_isN (pv 1))) (pw_or1 (pt_cmp (pc_isN (pv 2)))))) (pss_one (ps_ret pe_non)) pss_nil)
      (pss_one (ps_ret (pe_op op_add (pv 1) (pv 2))))),?_⟩
    rcases x with _ | i
    · obtain rfl:=isW_non h1
      exact ⟨_,rfl,_,rfl,iteT (iteT (q _ _ (Same.refl H) True.intro))⟩
    · obtain rfl:=isW_int h1
      refine ⟨_,rfl,_,rfl,iteF ?_⟩
      rcases y with _ | j
      · obtain rfl:=isW_non h2
        exact ⟨_,rfl,_,rfl,iteT (q _ _ (Same.refl H) True.intro)⟩
      · obtain rfl:=isW_int h2
        exact ⟨_,rfl,_,rfl,iteF ⟨_,rfl,_,rfl,_,_,rfl,rfl,q _ _ (Same.refl H) (by show (i:Int) + j=((i + j:Nat):Int); omega)⟩⟩
  | widest =>
    refine m_of hk T F.fWidest (fun _ _ _ _ _ _ us hl=>match us,hl with | [_,_,_],_=>rfl) fun f fd F=>F.okN sc_Widest_behind (fun _ _ _ _=>len_mul) (fun cdv A outer s H vs Q E hr h=>?_)
    obtain ⟨p,v1,v2,ok,x,y,rfl,_,h1,h2,s1,s2,q⟩:=h
    refine ⟨_,(pss_one (ps_ret (pe_callB (call_min2 rfl) rfl T.b_min bt_min (pa_cons (hs:=st_Name) (pv 1) (pa_cons (hs:=st_Name) (pv 2) pa_nil))))),?_⟩
    obtain rfl:=isW_int h1
    obtain rfl:=isW_int h2
    exact ⟨_,rfl,_,rfl,_,_,rfl,q _ _ (Same.refl H) (min_if x.1 y.1)⟩
  | counted =>
    refine m_of hk T F.fCounted (fun _ _ _ _ _ _ us hl=>match us,hl with | [_,_,_],_=>rfl) fun f fd F=>F.okN sc_Counted_behind (fun _ _ _ _=>len_mul) (fun cdv A outer s H vs Q E hr h=>?_)
    obtain ⟨p,v1,v2,ok,x,y,rfl,_,h1,h2,s1,s2,q⟩:=h
    refine ⟨_,(pss_cons (ps_if (PW.pt (pw_or (pt_cmpR op_eq (pv 1) pe_int (nomark _)) (pw_or1 (pt_cmpR op_eq (pv 2) pe_int (nomark _))))) (pss_one (ps_ret pe_int)) pss_nil)
      (pss_cons (ps_if (PW.pt (pw_or (pt_cmpR op_eq (pv 1) (pe_un un_neg pe_int) (nomark _)) (pw_or1 (pt_cmpR op_eq (pv 2) (pe_un un_neg pe_int) (nomark _))))) (pss_one (ps_ret (pe_un un_neg pe_int))) pss_nil)
      (pss_one (ps_ret (pe_op op_mulX (pv 1) (pv 2)))))),?_⟩
    obtain ⟨i,rfl,e1,hx⟩:=counted_is h1
    obtain ⟨j,rfl,e2,hy⟩:=counted_is h2
    rw [e1] at s1
    rw [e2] at s2
    have fin:∀ k:Int,enc .counted (oMul x y)=.int k→Q (.int k) H:=fun k e=>q _ _ (Same.refl H) (by show IsW H _ (enc .counted (oMul x y)); rw [e]; exact rfl)
    refine ⟨_,rfl,rfl,_,rfl,iteEqI (fun z=>?_) (fun zi=>?_)⟩
    · exact iteT (fin 0 (counted_zero hx z))
    refine ⟨_,rfl,rfl,_,rfl,iteEqI (fun z=>?_) (fun zj=>?_)⟩
    · exact fin 0 ((congrArg (enc .counted) (oMul_comm x y)).trans (counted_zero hy z))
    refine ⟨_,rfl,_,rfl,rfl,_,rfl,iteEqI (fun z=>?_) (fun z1=>?_)⟩
    · exact iteT ⟨_,rfl,fin (-1) (counted_endless hx hy zi zj (.inl z))⟩
    refine ⟨_,rfl,_,rfl,rfl,_,rfl,iteEqI (fun z=>?_) (fun z2=>?_)⟩
    · exact ⟨_,rfl,fin (-1) (counted_endless hx hy zi zj (.inr z))⟩
    · exact ⟨_,rfl,_,rfl,_,_,rfl,rfl,big_mul s1 s2,fin _ (counted_prod hx hy z1 z2)⟩
  | likeliest =>
    refine m_of hk T F.fLikeliest (fun _ _ _ _ _ _ us hl=>match us,hl with | [_,_,_],_=>rfl) fun f fd F=>F.okN sc_Likeliest_behind (fun _ _ _ _=>len_mul) (fun cdv A outer s H vs Q E hr h=>?_)
    obtain ⟨p,v1,v2,ok,x,y,rfl,_,h1,h2,s1,s2,q⟩:=h
    exact ⟨_,(pss_one (ps_ret (pe_callD D_multiplied (hr.mono (by decide)) rfl passE0 (pa_cons (hs:=st_Name) (pv 1) (pa_cons (hs:=st_Name) (pv 2) pa_nil))))),⟨_,rfl,_,rfl,v1,v2,x.1,y.1,rfl,h1,h2,s1,s2,fun v H' s' hv=>q v H' s' hv⟩⟩
  | chances =>
    refine m_of hk T F.fChances (fun _ _ _ _ _ _ us hl=>match us,hl with | [_,_,_],_=>rfl) fun f fd F=>F.okN sc_Chances_behind (fun _ _ _ _=>len_mul) (fun cdv A outer s H vs Q E hr h=>?_)
    obtain ⟨p,v1,v2,ok,x,y,rfl,_,h1,h2,s1,s2,q⟩:=h
    exact ⟨_,(pss_one (ps_ret (pe_callD D_multiplied (hr.mono (by decide)) rfl passE0 (pa_cons (hs:=st_Name) (pv 1) (pa_cons (hs:=st_Name) (pv 2) pa_nil))))),⟨_,rfl,_,rfl,v1,v2,x.1,y.1,rfl,h1,h2,s1,s2,fun v H' s' hv=>q v H' s' hv⟩⟩
  | musts =>
    refine m_of hk T F.fMusts (fun _ _ _ _ _ _ us hl=>match us,hl with | [_,_,_],_=>rfl) fun f fd F=>F.okN sc_Musts_behind (fun _ _ _ _=>len_mul) (fun cdv A outer s H vs Q E hr h=>?_)
    obtain ⟨p,v1,v2,ok,x,y,rfl,_,h1,h2,s1,s2,q⟩:=h
    refine ⟨_,(pss_cons (ps_if (PW.pt (pw_or (pt_cmp (pc_isN (pv 1))) (pw_or1 (pt_cmp (pc_isN (pv 2)))))) (pss_one (ps_ret pe_non)) pss_nil)
      (pss_one (ps_ret (pe_op op_or (pv 1) (pv 2))))),?_⟩
    rcases x with _ | i
    · obtain rfl:=isW_non h1
      exact ⟨_,rfl,_,rfl,iteT (iteT (q _ _ (Same.refl H) True.intro))⟩
    · obtain rfl:=isW_int h1
      refine ⟨_,rfl,_,rfl,iteF ?_⟩
      rcases y with _ | j
      · obtain rfl:=isW_non h2
        exact ⟨_,rfl,_,rfl,iteT (q _ _ (Same.refl H) True.intro)⟩
      · obtain rfl:=isW_int h2
        exact ⟨_,rfl,_,rfl,iteF ⟨_,rfl,_,rfl,_,_,rfl,rfl,q _ _ (Same.refl H) (bitOr_nat i j)⟩⟩
  | rests m =>
    refine m_of (kd:=.rests m) hk T F.fRests (fun _ _ _ _ _ _ us hl=>match us,hl with | [_,_,_],_=>rfl) fun f fd F=>F.okN sc_Rests_behind (fun _ _ _ _=>len_mul) (fun cdv A outer s H vs Q E hr h=>?_)
    obtain ⟨p,v1,v2,ok,x,y,rfl,⟨dx,hp⟩,h1,h2,s1,s2,q⟩:=h
    obtain rfl:=isW_int h1
    obtain rfl:=isW_int h2
    have o1:1≤m:=ok.1
    have o2:m≤12:=ok.2
    refine ⟨_,(pss_cons (ps_set (i:=3) sc_Rests_behind.nd rfl (Or.inl rfl) pe_int)
      (pss_cons (ps_for PassesOwn.never rfl (pi_range1 rfl T.b_range (pa_cons (hs:=st_Attribute) (pe_fld (pv 0) rfl) pa_nil)) (pg_name (i:=4) sc_Rests_behind.nd rfl (Or.inl rfl)) (pss_one (ps_if (pt_truth (pe_op op_and (pe_op op_shr (pv 1) (pv 4)) pe_int) (fun _=>rfl)) (pss_one (ps_set (i:=3) sc_Rests_behind.nd rfl (Or.inl rfl) (pe_op op_or (pv 3) (pe_callD D_raised (hr.mono (by decide)) rfl passE0 (pa_cons (hs:=st_Name) (pv 2) (pa_cons (hs:=st_Name) (pv 4) (pa_cons (hs:=st_Attribute) (pe_fld (pv 0) rfl) pa_nil))))))) pss_nil)))
      (pss_one (ps_ret (pv 3))))),?_⟩
    refine ⟨_,rfl,p,_,dx,_,_,rfl,hp,T.cl (.rests m) hk,T.na_Rests_m,rfl,(m:Int),rfl,by omega,by omega,?_⟩
    refine for_range (n:=(m:Int).toNat) (fun i σ H'=>H'=H∧i≤m∧∃ o,σ=[some (.ref p),some (.int x.1),some (.int y.1),some (.int (behTo m x.1 y.1 i:Nat)),o]) ⟨rfl,by omega,none,rfl⟩ ?_ ?_
    · rintro i σ H' hi ⟨rfl,_,o,rfl⟩
      have hi':i < m:=by omega
      rw [Int.zero_add]
      refine ⟨_,rfl,_,rfl,_,_,rfl,rfl,by omega,_,_,rfl,rfl,_,rfl,?_⟩
      rw [shr_nat,bit_test]
      have e:=behTo_succ m x.1 y.1 i
      refine iteB (fun c=>?_) (fun c=>?_)
      · rw [if_pos c] at e
        refine ⟨_,rfl,_,rfl,_,rfl,_,rfl,p,_,dx,_,_,rfl,hp,T.cl (.rests m) hk,T.na_Rests_m,rfl,y.1,i,m,rfl,pow12 o2 y.2,by omega,o2,_,_,rfl,rfl,?_⟩
        refine ⟨rfl,by omega,some (V.int (i:Int)),?_⟩
        dsimp only
        rw [bitOr_nat,← e]
        rfl
      · rw [if_neg (by rw [c]; exact Bool.false_ne_true)] at e
        exact ⟨rfl,by omega,_,by rw [e]; rfl⟩
    · rintro σ H' ⟨rfl,_,o,rfl⟩
      exact ⟨_,rfl,q _ _ (Same.refl H') (by rw [Int.toNat_natCast]; rfl)⟩
end
end K14
namespace K14
open PySem L2 Ws
seal PE PT PW PA PC PS PSs PG PGs PI PO
section
variable {P : Program} {w : World} {K : PySem.W.Frag} {mg : Str → Option Value} {base : Heap} {a : Adr}
def spIsFrom:Sp:=fun vs H Q _=>∃ v w l,vs=[v,.int l]∧IsW H v w∧Q (.bl (isFrom w l)) H
theorem sc_is_from:FnScope ["some","least"] ["some","least"] (defScope (top 34)):=⟨rfl,rfl,rfl,by decide +kernel,rfl,by decide +kernel,by decide +kernel⟩
theorem d_is_from (T:Tx K mg a) (F:DefAt K mg "is_from" (top 34)):Dn P w K mg base 1 "is_from" ["some","least"] spIsFrom:=by
  obtain ⟨f,fd,hm,F⟩:=F.ex
  refine ⟨f,fd,hm,F.kp,F.binds fun _ _ _ _ _ _ us hl=>match us,hl with | [_,_],_=>rfl,?_⟩
  refine F.okN sc_is_from (fun vs H Q E h=>?_) (fun cdv A outer s H vs Q E hr h=>?_)
  · obtain ⟨_,_,_,rfl,_⟩:=h
    rfl
  · obtain ⟨v,w',l,rfl,hw,q⟩:=h
    refine ⟨_,(pss_one (ps_ret (pe_and (pe_callB call_isinst rfl T.b_isinstance bt_isinstance (pa_cons (hs:=st_Name) (pv 0) (pa_cons (hs:=st_Name) (pe_bltn (v:=V.ty "int") rfl T.b_int bt_int rfl) pa_nil))) (pe_one (pe_cmpR op_ge (pv 0) (pv 1) (nomark _)))))),?_⟩
    rcases isW_cases hw with ⟨rfl,rfl⟩ | ⟨i,rfl,rfl⟩ | ⟨p,x,y,rfl,rfl,hp⟩
    · exact ⟨_,rfl,_,_,_,_,_,rfl,rfl,.of .non,kit_nI,_,rfl,iteF q⟩
    · exact ⟨_,rfl,_,_,_,_,_,rfl,rfl,.of (.int _),kit_iI,_,rfl,iteT ⟨_,rfl,_,rfl,_,_,rfl,rfl,q⟩⟩
    · exact ⟨_,rfl,_,_,_,_,_,rfl,rfl,.of (.tup hp),kit_tI,_,rfl,iteF q⟩
def spIsShare:Sp:=fun vs H Q _=>∃ v w,vs=[v]∧IsW H v w∧Q (.bl (isShare w)) H
theorem sc_is_share:FnScope ["some"] ["some"] (defScope (top 25)):=⟨rfl,rfl,rfl,by decide +kernel,rfl,by decide +kernel,by decide +kernel⟩
theorem d_is_share (T:Tx K mg a) (D_divisor:Dn P w K mg base 1 "divisor" ["first","second"] spDivisor) (F:DefAt K mg "is_share" (top 25)):Dn P w K mg base 2 "is_share" ["some"] spIsShare:=by
  obtain ⟨f,fd,hm,F⟩:=F.ex
  refine ⟨f,fd,hm,F.kp,F.binds fun _ _ _ _ _ _ us hl=>match us,hl with | [_],_=>rfl,?_⟩
  refine F.okN sc_is_share (fun vs H Q E h=>?_) (fun cdv A outer s H vs Q E hr h=>?_)
  · obtain ⟨_,_,rfl,_⟩:=h
    rfl
  · obtain ⟨v,w',rfl,hw,q⟩:=h
    refine ⟨_,(pss_one (ps_ret (pe_and (pe_callB call_isinst rfl T.b_isinstance bt_isinstance (pa_cons (hs:=st_Name) (pv 0) (pa_cons (hs:=st_Name) (pe_bltn (v:=V.ty "tuple") rfl T.b_tuple bt_tuple rfl) pa_nil))) (pe_and (pe_cmpR op_gt (pe_ix ix_tup (pv 0) pe_int (fun _ _=>rfl)) pe_int (nomark _)) (pe_one (pe_cmpR op_eq (pe_callD D_divisor (hr.mono (by decide)) rfl passE0 (pa_cons (hs:=st_Subscript) (pe_ix ix_tup (pv 0) pe_int (fun _ _=>rfl)) (pa_cons (hs:=st_Subscript) (pe_ix ix_tup (pv 0) pe_int (fun _ _=>rfl)) pa_nil))) pe_int (nomark _))))))),?_⟩
    rcases isW_cases hw with ⟨rfl,rfl⟩ | ⟨i,rfl,rfl⟩ | ⟨p,x,y,rfl,rfl,hp⟩
    · exact ⟨_,rfl,_,_,_,_,_,rfl,rfl,.of .non,kit_nT,_,rfl,iteF q⟩
    · exact ⟨_,rfl,_,_,_,_,_,rfl,rfl,.of (.int _),kit_iT,_,rfl,iteF q⟩
    · refine ⟨_,rfl,_,_,_,_,_,rfl,rfl,.of (.tup hp),kit_tT,_,rfl,iteT ?_⟩
      refine ⟨_,rfl,p,_,_,_,rfl,rfl,SqT.of hp,rfl,_,_,rfl,rfl,_,rfl,?_⟩
      refine ite2 (fun c=>?_) (fun c=>?_)
      · have c:0 < y:=of_decide_eq_true c
        refine ⟨_,rfl,p,_,_,_,rfl,rfl,SqT.of hp,rfl,_,rfl,p,_,_,_,rfl,rfl,SqT.of hp,rfl,x,y,rfl,c,rfl,?_⟩
        have:decide (V.int (Int.gcd x y:Int)=V.int 1)=isShare (.pair x y):=by
          by_cases g:Int.gcd x y=1
          · simp [isShare,c,g]
          · have:¬ ((Int.gcd x y:Int)=1):=by omega
            simp [isShare,c,g,this]
        rw [this]
        exact q
      · have c:¬ 0 < y:=fun z=>c (decide_eq_true z)
        have:isShare (.pair x y)=false:=by simp [isShare,c]
        rw [this] at q
        exact q
def spIsWorth (a:Adr) (kd:Kd):Sp:=fun vs H Q _=>∃ p v w,vs=[.ref p,v]∧KindAt a H p kd∧KdOk kd∧IsW H v w∧Q (.bl (isWorth kd w)) H
theorem sp_len {kd:Kd} {vs:List V} {H:Hp} {Q:VK} {E:XK} (h:spIsWorth a kd vs H Q E):vs.length=2:=by
  obtain ⟨_,_,_,rfl,_⟩:=h
  rfl
theorem isFrom_true {w:Wd} {l:Int} (h:isFrom w l=true):∃ i,w=.int i∧l≤i:=by
  cases w <;> simp_all [isFrom]
theorem isShare_true {w:Wd} (h:isShare w=true):∃ x y,w=.pair x y:=by
  cases w <;> simp_all [isShare]
theorem or_none {H:Hp} {v:V} {w:Wd} {kd:Kd} {Q:VK} {E:XK} {self:V} (hw:IsW H v w) (e0:isWorth kd .non=true) (e1:w≠.non→isWorth kd w=isFrom w 0) (q:Q (.bl (isWorth kd w)) H) :
    tRet (tOrV (tIsN (tVar 1)) (tCallD spIsFrom E (tCons (tVar 1) (tCons (tC (.int 0)) tNil)))) { nx:=fun _ H'=>Q .non H',rt:=Q } (start ["self","some"] [self,v]) H:=by
  refine ⟨_,rfl,_,rfl,iteD (fun c=>?_) (fun c=>?_)⟩
  · subst c
    rcases isW_cases hw with ⟨_,rfl⟩ | ⟨i,z,_⟩ | ⟨p,x,y,z,_⟩
    · rw [e0] at q; exact q
    · cases z
    · cases z
  · refine ⟨_,rfl,v,w,_,rfl,hw,?_⟩
    rw [e1 (fun z=>by subst z; exact c (isW_non hw))] at q
    exact q
theorem sc_Fewest_is_worth:FnScope ["self","some"] ["self","some"] (defScope (inClass (top 37) 2)):=⟨rfl,rfl,rfl,by decide +kernel,rfl,by decide +kernel,by decide +kernel⟩
theorem sc_Widest_is_worth:FnScope ["self","some"] ["self","some"] (defScope (inClass (top 38) 2)):=⟨rfl,rfl,rfl,by decide +kernel,rfl,by decide +kernel,by decide +kernel⟩
theorem sc_Counted_is_worth:FnScope ["self","some"] ["self","some"] (defScope (inClass (top 39) 2)):=⟨rfl,rfl,rfl,by decide +kernel,rfl,by decide +kernel,by decide +kernel⟩
theorem sc_Likeliest_is_worth:FnScope ["self","some"] ["self","some"] (defScope (inClass (top 40) 2)):=⟨rfl,rfl,rfl,by decide +kernel,rfl,by decide +kernel,by decide +kernel⟩
theorem sc_Chances_is_worth:FnScope ["self","some"] ["self","some"] (defScope (inClass (top 41) 2)):=⟨rfl,rfl,rfl,by decide +kernel,rfl,by decide +kernel,by decide +kernel⟩
theorem sc_Musts_is_worth:FnScope ["self","some"] ["self","some"] (defScope (inClass (top 42) 2)):=⟨rfl,rfl,rfl,by decide +kernel,rfl,by decide +kernel,by decide +kernel⟩
theorem sc_Rests_is_worth:FnScope ["self","some"] ["self","some"] (defScope (inClass (top 43) 3)):=⟨rfl,rfl,rfl,by decide +kernel,rfl,by decide +kernel,by decide +kernel⟩
structure IsWorthAt (K:PySem.W.Frag) (a:Adr):Prop where
  f0:MthAt K a.cFewest "is_worth" "Fewest.is_worth" (inClass (top 37) 2)
  f1:MthAt K a.cWidest "is_worth" "Widest.is_worth" (inClass (top 38) 2)
  f2:MthAt K a.cCounted "is_worth" "Counted.is_worth" (inClass (top 39) 2)
  f3:MthAt K a.cLikeliest "is_worth" "Likeliest.is_worth" (inClass (top 40) 2)
  f4:MthAt K a.cChances "is_worth" "Chances.is_worth" (inClass (top 41) 2)
  f5:MthAt K a.cMusts "is_worth" "Musts.is_worth" (inClass (top 42) 2)
  f6:MthAt K a.cRests "is_worth" "Rests.is_worth" (inClass (top 43) 3)
theorem v_is_worth (T:Tx K mg a) (D_is_from:Dn P w K mg base 1 "is_from" ["some","least"] spIsFrom) (D_is_share:Dn P w K mg base 2 "is_share" ["some"] spIsShare) (F:IsWorthAt K a) :
    Mth P w K mg base 3 a.cl "is_worth" ["self","some"] (fun i=>spIsWorth a i.1):=by
  refine ⟨fun ⟨kd,hk⟩=>?_⟩
  cases kd with
  | fewest =>
    refine m_of hk T F.f0 (fun _ _ _ _ _ _ us hl=>match us,hl with | [_,_],_=>rfl) fun f fd F=>?_
    refine F.okN sc_Fewest_is_worth (fun _ _ _ _=>sp_len) (fun cdv A outer s H vs Q E hr h=>?_)
    obtain ⟨p,v,w',rfl,_,ok,hw,q⟩:=h
    exact ⟨_,(pss_one (ps_ret (pe_or (pe_cmp (pc_isN (pv 1))) (pe_one (pe_callD D_is_from (hr.mono (by decide)) rfl passE0 (pa_cons (hs:=st_Name) (pv 1) (pa_cons (hs:=st_Constant) pe_int pa_nil))))))),or_none hw (by simp [isWorth]) (fun n=>by simp [isWorth,n]) q⟩
  | widest =>
    refine m_of hk T F.f1 (fun _ _ _ _ _ _ us hl=>match us,hl with | [_,_],_=>rfl) fun f fd F=>?_
    refine F.okN sc_Widest_is_worth (fun _ _ _ _=>sp_len) (fun cdv A outer s H vs Q E hr h=>?_)
    obtain ⟨p,v,w',rfl,_,ok,hw,q⟩:=h
    refine ⟨_,(pss_one (ps_ret (pe_and (pe_callD D_is_from (hr.mono (by decide)) rfl passE0 (pa_cons (hs:=st_Name) (pv 1) (pa_cons (hs:=st_Constant) pe_int pa_nil))) (pe_one (pe_cmpR op_le (pv 1) (pe_glob (v:=V.int 1000000000) rfl T.c_WIDEST ⟨_,rfl⟩) (nomark _)))))),?_⟩
    refine ⟨_,rfl,v,w',_,rfl,hw,_,rfl,iteB (fun c=>?_) (fun c=>?_)⟩
    · obtain ⟨i,rfl,hi⟩:=isFrom_true c
      obtain rfl:=isW_int hw
      refine ⟨_,rfl,_,_,rfl,rfl,?_⟩
      rw [show isWorth .widest (.int i)=decide (i≤1000000000) by simp [isWorth,hi]] at q
      exact q
    · rw [show isWorth .widest w'=false by cases w' <;> simp_all [isWorth,isFrom] <;> (intros; omega)] at q
      exact q
  | counted =>
    refine m_of hk T F.f2 (fun _ _ _ _ _ _ us hl=>match us,hl with | [_,_],_=>rfl) fun f fd F=>?_
    refine F.okN sc_Counted_is_worth (fun _ _ _ _=>sp_len) (fun cdv A outer s H vs Q E hr h=>?_)
    obtain ⟨p,v,w',rfl,_,ok,hw,q⟩:=h
    exact ⟨_,(pss_one (ps_ret (pe_callD D_is_from (hr.mono (by decide)) rfl passE0 (pa_cons (hs:=st_Name) (pv 1) (pa_cons (hs:=st_UnaryOp) (pe_un un_neg pe_int) pa_nil))))),⟨_,rfl,_,rfl,v,w',_,rfl,hw,q⟩⟩
  | likeliest =>
    refine m_of hk T F.f3 (fun _ _ _ _ _ _ us hl=>match us,hl with | [_,_],_=>rfl) fun f fd F=>?_
    refine F.okN sc_Likeliest_is_worth (fun _ _ _ _=>sp_len) (fun cdv A outer s H vs Q E hr h=>?_)
    obtain ⟨p,v,w',rfl,_,ok,hw,q⟩:=h
    refine ⟨_,(pss_one (ps_ret (pe_and (pe_callD D_is_share (hr.mono (by decide)) rfl passE0 (pa_cons (hs:=st_Name) (pv 1) pa_nil)) (pe_one (pe_chain op_le op_le pe_int (pe_ix ix_tup (pv 1) pe_int (fun _ _=>rfl)) (pe_ix ix_tup (pv 1) pe_int (fun _ _=>rfl))))))),?_⟩
    refine ⟨_,rfl,v,w',rfl,hw,_,rfl,iteB (fun c=>?_) (fun c=>?_)⟩
    · obtain ⟨x,y,rfl⟩:=isShare_true c
      obtain ⟨r,rfl,hp⟩:=isW_pair hw
      refine ⟨_,rfl,r,_,_,_,rfl,rfl,SqT.of hp,rfl,_,_,rfl,rfl,_,rfl,iteD (fun d=>?_) (fun d=>?_)⟩
      · refine ⟨_,rfl,r,_,_,_,rfl,rfl,SqT.of hp,rfl,_,_,rfl,rfl,?_⟩
        rw [show isWorth .likeliest (.pair x y)=decide (x≤y) by simp [isWorth,c,d]] at q
        exact q
      · rw [show isWorth .likeliest (.pair x y)=false by simp [isWorth,d]] at q
        exact q
    · rw [show isWorth .likeliest w'=false by cases w' <;> simp_all [isWorth]] at q
      exact q
  | chances =>
    refine m_of hk T F.f4 (fun _ _ _ _ _ _ us hl=>match us,hl with | [_,_],_=>rfl) fun f fd F=>?_
    refine F.okN sc_Chances_is_worth (fun _ _ _ _=>sp_len) (fun cdv A outer s H vs Q E hr h=>?_)
    obtain ⟨p,v,w',rfl,_,ok,hw,q⟩:=h
    refine ⟨_,(pss_one (ps_ret (pe_and (pe_callD D_is_share (hr.mono (by decide)) rfl passE0 (pa_cons (hs:=st_Name) (pv 1) pa_nil)) (pe_one (pe_cmpR op_ge (pe_ix ix_tup (pv 1) pe_int (fun _ _=>rfl)) pe_int (nomark _)))))),?_⟩
    refine ⟨_,rfl,v,w',rfl,hw,_,rfl,iteB (fun c=>?_) (fun c=>?_)⟩
    · obtain ⟨x,y,rfl⟩:=isShare_true c
      obtain ⟨r,rfl,hp⟩:=isW_pair hw
      refine ⟨_,rfl,r,_,_,_,rfl,rfl,SqT.of hp,rfl,_,_,rfl,rfl,?_⟩
      rw [show isWorth .chances (.pair x y)=decide (0≤x) by simp [isWorth,c]] at q
      exact q
    · rw [show isWorth .chances w'=false by cases w' <;> simp_all [isWorth]] at q
      exact q
  | musts =>
    refine m_of hk T F.f5 (fun _ _ _ _ _ _ us hl=>match us,hl with | [_,_],_=>rfl) fun f fd F=>?_
    refine F.okN sc_Musts_is_worth (fun _ _ _ _=>sp_len) (fun cdv A outer s H vs Q E hr h=>?_)
    obtain ⟨p,v,w',rfl,_,ok,hw,q⟩:=h
    exact ⟨_,(pss_one (ps_ret (pe_or (pe_cmp (pc_isN (pv 1))) (pe_one (pe_callD D_is_from (hr.mono (by decide)) rfl passE0 (pa_cons (hs:=st_Name) (pv 1) (pa_cons (hs:=st_Constant) pe_int pa_nil))))))),or_none hw (by simp [isWorth]) (fun n=>by simp [isWorth,n]) q⟩
  | rests m =>
    refine m_of (kd:=.rests m) hk T F.f6 (fun _ _ _ _ _ _ us hl=>match us,hl with | [_,_],_=>rfl) fun f fd F=>?_
    refine F.okN sc_Rests_is_worth (fun _ _ _ _=>sp_len) (fun cdv A outer s H vs Q E hr h=>?_)
    obtain ⟨p,v,w',rfl,⟨dx,hp⟩,ok,hw,q⟩:=h
    refine ⟨_,(pss_one (ps_ret (pe_and (pe_callD D_is_from (hr.mono (by decide)) rfl passE0 (pa_cons (hs:=st_Name) (pv 1) (pa_cons (hs:=st_Constant) pe_int pa_nil))) (pe_one (pe_cmpR op_lt (pv 1) (pe_op op_shl pe_int (pe_fld (pv 0) rfl)) (nomark _)))))),?_⟩
    refine ⟨_,rfl,v,w',_,rfl,hw,_,rfl,iteB (fun c=>?_) (fun c=>?_)⟩
    · obtain ⟨i,rfl,hi⟩:=isFrom_true c
      obtain rfl:=isW_int hw
      have o1:1≤m:=ok.1
      have o2:m≤12:=ok.2
      refine ⟨_,rfl,_,rfl,p,_,dx,_,_,rfl,hp,T.cl (.rests m) hk,T.na_Rests_m,rfl,_,_,rfl,rfl,⟨by omega,by omega,by decide⟩,_,_,rfl,rfl,?_⟩
      rw [show isWorth (.rests m) (.int i)=decide (i < 1 * 2 ^ (m:Int).toNat) by simp [isWorth,hi]] at q
      exact q
    · rw [show isWorth (.rests m) w'=false by cases w' <;> simp_all [isWorth,isFrom] <;> (intros; omega)] at q
      exact q
end
end K14
namespace K14
open PySem L2 Ws
seal PE PT PW PA PC PS PSs PG PGs PI PO PJ PTs
def IsRoad (H:Hp) (v:V) (r:Road):Prop:=∃ p wv,v=.ref p∧H p=some (.tup [.int r.f,.int r.t,wv])∧IsW H wv r.w
theorem IsRoad.same {H H':Hp} (e:Same H H') {v:V} {r:Road}:IsRoad H v r→IsRoad H' v r:=fun ⟨p,wv,e1,e2,e3⟩=>⟨p,wv,e1,e _ _ e2,e3.same e⟩
abbrev IsRoads (H:Hp):List V→List Road→Prop:=Paired (IsRoad H)
theorem IsRoads.same {H H':Hp} (e:Same H H') {vs:List V} {rs:List Road} (h:IsRoads H vs rs):IsRoads H' vs rs:=Paired.mapP h fun _ _ q=>q.same e
abbrev IsWs (H:Hp):List V→List Wd→Prop:=Paired (IsW H)
theorem IsWs.same {H H':Hp} (e:Same H H') {vs:List V} {rs:List Wd} (h:IsWs H vs rs):IsWs H' vs rs:=Paired.mapP h fun _ _ q=>q.same e
theorem pget {α β:Type} {F:α→β→Prop}:∀ {xs:List α} {ys:List β} {i:Nat} {x:α},Paired F xs ys→xs[i]?=some x→∃ y,ys[i]?=some y∧F x y
  | _ :: _,_ :: _,0,_,.cons h _,e=>⟨_,rfl,by simp at e; subst e; exact h⟩
  | _ :: _,_ :: _,i + 1,_,.cons _ t,e=>by
    obtain ⟨y,e',h⟩:=pget (i:=i) t (by simpa using e)
    exact ⟨y,by simpa using e',h⟩
structure NetIs (a:Adr) (H:Hp) (p:Addr) (kd:Kd) (n:Nat) (kp tp:Addr) (vs:List V) (rs:List Road):Prop where
  ins:∃ dx,H p=some (.ins a.cNet dx [("own_kind",.ref kp),("how_many",.int (n:Int)),("own_roads",.ref tp)])
  kind:KindAt a H kp kd
  tup:H tp=some (.tup vs)
  rds:IsRoads H vs rs
theorem KindAt.same {a:Adr} {H H':Hp} {p:Addr} {kd:Kd} (e:Same H H'):KindAt a H p kd→KindAt a H' p kd:=fun ⟨dx,h⟩=>⟨dx,e _ _ h⟩
theorem NetIs.same {a:Adr} {H H':Hp} {p:Addr} {kd:Kd} {n:Nat} {kp tp:Addr} {vs:List V} {rs:List Road} (e:Same H H') (h:NetIs a H p kd n kp tp vs rs):NetIs a H' p kd n kp tp vs rs :=
  ⟨let ⟨dx,q⟩:=h.ins; ⟨dx,e _ _ q⟩,h.kind.same e,e _ _ h.tup,h.rds.same e⟩
theorem lines {n:Nat} (h:n≤1000):n < sizeLine:=by rw [sizeLine_eq]; omega
section
variable {P : Program} {w : World} {K : PySem.W.Frag} {mg : Str → Option Value} {base : Heap} {a : Adr}
def spNums (a:Adr):Sp:=fun vs H Q E=>∃ (n:Int) (rl:Addr) (xs:List V),vs=[.int n,.ref rl]∧H rl=some (.lst xs)∧n.natAbs.log2 < 1920∧(numsOk n xs.length=true→Q .non H)∧(numsOk n xs.length=false→E (.ref a.cNoNet) none H)
theorem sc_check_numbers:FnScope ["places","roads"] ["places","roads"] (defScope (top 11)):=⟨rfl,rfl,rfl,by decide +kernel,rfl,by decide +kernel,by decide +kernel⟩
theorem d_check_numbers (T:Tx K mg a) (F:DefAt K mg "check_numbers" (top 11)):Dn P w K mg base 1 "check_numbers" ["places","roads"] (spNums a):=by
  obtain ⟨f,fd,hm,F⟩:=F.ex
  refine ⟨f,fd,hm,F.kp,F.binds fun _ _ _ _ _ _ us hl=>match us,hl with | [_,_],_=>rfl,?_⟩
  refine F.okX sc_check_numbers (fun vs H Q E h=>?_) (fun cdv A outer s H vs Q E hr h=>?_)
  · obtain ⟨_,_,_,rfl,_⟩:=h
    rfl
  · obtain ⟨n,rl,xs,rfl,hx,hl,q,e⟩:=h
    refine ⟨_,(pss_cons (ps_if (PW.pt (pw_or (pt_cmpR op_lt (pv 0) pe_int (nomark _)) (pw_or1 (pt_cmpR op_gt (pv 0) (pe_glob (v:=V.int 8) rfl T.c_MOST_PLACES ⟨_,rfl⟩) (nomark _))))) (pss_one (ps_raise T.x_NoNet rfl rfl rais_cx (pa_cons (hs:=st_JoinedStr) (pe_fstr2 (pv 0)) pa_nil))) pss_nil)
      (pss_one (ps_if (pt_cmpR op_gt (pe_callB call_len_seq rfl T.b_len bt_len (pa_cons (hs:=st_Name) (pv 1) pa_nil)) (pe_glob (v:=V.int 64) rfl T.c_MOST_ROADS ⟨_,rfl⟩) (nomark _)) (pss_one (ps_raise T.x_NoNet rfl rfl rais_cx (pa_cons (hs:=st_Constant) pe_str pa_nil))) pss_nil))),?_⟩
    have hs:(Str.ofString "a net has 1 to 8 places, not ").length≤1000:=by decide +kernel
    have no:¬ (1≤n∧n≤8∧xs.length≤64)→numsOk n xs.length=false:=fun z=>by
      simp only [numsOk,Bool.and_eq_false_iff,decide_eq_false_iff_not]; omega
    refine ⟨_,rfl,_,_,rfl,rfl,_,rfl,iteD (fun c=>?_) (fun c=>?_)⟩
    · exact ⟨hs,_,rfl,_,rfl,hl,fun z=>⟨by show 1≤sizeLine; decide,e (no (by omega))⟩⟩
    · refine ⟨_,rfl,_,_,rfl,rfl,_,rfl,iteD (fun c2=>?_) (fun c2=>?_)⟩
      · exact ⟨hs,_,rfl,_,rfl,hl,fun z=>⟨by show 1≤sizeLine; decide,e (no (by omega))⟩⟩
      · refine ⟨_,rfl,rl,_,rfl,.inl (SqL.of hx),_,_,rfl,rfl,_,rfl,iteD (fun c3=>?_) (fun c3=>?_)⟩
        · exact ⟨by show 1≤sizeLine; decide,e (no (by omega))⟩
        · exact q (by simp only [numsOk,Bool.and_eq_true,decide_eq_true_eq]; omega)
def spEnds (a:Adr):Sp:=fun vs H Q E=>∃ (n:Int) (rl:Addr) (xs:List V) (rs:List Road),vs=[.int n,.ref rl]∧H rl=some (.lst xs)∧IsRoads H xs rs∧xs.length≤64∧(rs.all (endOk n)=true→∀ H',Same H H'→Q .non H')∧(rs.all (endOk n)=false→∀ H',Same H H'→E (.ref a.cNoNet) none H')
theorem all_take {α:Type} {p:α→Bool} {l:List α} {i:Nat} {x:α} (h:(l.take i).all p=true) (e:l[i]?=some x) (hx:p x=true):(l.take (i + 1)).all p=true:=by
  rw [List.take_add_one,e,List.all_append,h]
  simp [hx]
theorem all_not {α:Type} {p:α→Bool} {l:List α} {i:Nat} {x:α} (e:l[i]?=some x) (hx:p x=false):l.all p=false:=by
  rw [List.all_eq_false]
  exact ⟨x,List.mem_of_getElem? e,by simp [hx]⟩
theorem sc_check_ends:FnScope ["places","roads","number","road"] ["places","roads"] (defScope (top 12)):=⟨rfl,rfl,rfl,by decide +kernel,rfl,by decide +kernel,by decide +kernel⟩
theorem d_check_ends (T:Tx K mg a) (F:DefAt K mg "check_ends" (top 12)):Dn P w K mg base 1 "check_ends" ["places","roads"] (spEnds a):=by
  obtain ⟨f,fd,hm,F⟩:=F.ex
  refine ⟨f,fd,hm,F.kp,F.binds fun _ _ _ _ _ _ us hl=>match us,hl with | [_,_],_=>rfl,?_⟩
  refine F.okX sc_check_ends (fun vs H Q E h=>?_) (fun cdv A outer s H vs Q E hr h=>?_)
  · obtain ⟨_,_,_,_,rfl,_⟩:=h
    rfl
  · obtain ⟨n,rl,xs,rs,rfl,hx,hR,h64,q,e⟩:=h
    refine ⟨_,(pss_one (ps_for own_cx rfl (pi_enum rfl T.b_enumerate (pa_cons (hs:=st_Name) (pv 1) pa_nil)) (pg_tup rfl (pgs_cons (pg_name (i:=2) sc_check_ends.nd rfl (Or.inl rfl)) (pgs_cons (pg_name (i:=3) sc_check_ends.nd rfl (Or.inl rfl)) pgs_nil))) (pss_one (ps_if (pt_not (PW.pt (pw_and (pt_chain op_le op_lt pe_int (pe_ix ix_tup (pv 3) pe_int (fun _ _=>rfl)) (pv 0)) (pw_and1 (pt_chain op_le op_lt pe_int (pe_ix ix_tup (pv 3) pe_int (fun _ _=>rfl)) (pv 0)))))) (pss_one (ps_raise T.x_NoNet rfl rfl rais_cx (pa_cons (hs:=st_JoinedStr) (pe_fstrN (pj_str (pj_int (pv 2) (pj_str pj_nil)))) pa_nil))) pss_nil)))),?_⟩
    have hs1:(Str.ofString "an end of road ").length≤1000:=by decide +kernel
    have hs2:(Str.ofString " is no place").length≤1000:=by decide +kernel
    have hl:=hR.length
    refine ⟨_,rfl,rl,rfl,⟨xs,SqL.of hx⟩,for_enum (xs:=xs) (fun i σ H'=>∃ u v,σ=[some (.int n),some (.ref rl),u,v]∧Same H H'∧(rs.take i).all (endOk n)=true) ⟨_,_,rfl,Same.refl H,by simp⟩ (fun i σ H' _ ⟨_,_,_,s',_⟩=>SqL.of (s' _ _ hx)) ?_ ?_⟩
    · rintro i x σ H' p ex ⟨u,v,rfl,s',al⟩ np
      obtain ⟨r,er,pr,wv,rfl,e2,e3⟩:=pget hR ex
      have s2:Same H (upd H' p (.tup [.int (i:Nat),.ref pr])):=s'.trans (same_one np)
      have e4:=s2 _ _ e2
      have hi:i < xs.length:=(List.getElem?_eq_some_iff.mp ex).1
      have li:((i:Nat):Int).natAbs.log2 < 1920:=by
        refine log2_small ?_
        have:(64:Nat) < 10 ^ 62:=by decide
        omega
      have bad:endOk n r=false→E (.ref a.cNoNet) none (upd H' p (.tup [.int (i:Nat),.ref pr])):=fun z=>e (all_not er z) _ s2
      refine ⟨p,_,rfl,SqT.of upd_same,rfl,_,_,rfl,_,_,rfl,rfl,?_⟩
      have rz:endOk n r=false→_:=fun z=>(⟨hs1,_,rfl,_,rfl,li,hs2,fun z2=>⟨by show 1≤sizeLine; decide,bad z⟩⟩ :
        tRaise a.cNoNet E (tCons (tFsN fun σ H Q=>(Str.ofString "an end of road ").length≤1000∧tVar 2 σ H fun x H1=>∃ i,x=V.int i∧i.natAbs.log2 < 1920∧(Str.ofString " is no place").length≤1000∧Q H1) tNil) { nx:=fun _ H'=>Q .non H',rt:=Q } [some (.int n),some (.ref rl),some (.int (i:Nat)),some (.ref pr)] (upd H' p (.tup [.int (i:Nat),.ref pr])))
      have no:¬ (0≤r.f∧r.f < n∧0≤r.t∧r.t < n)→endOk n r=false:=fun z=>by
        simp only [endOk,Bool.and_eq_false_iff,decide_eq_false_iff_not]; omega
      refine ⟨_,rfl,pr,_,_,_,rfl,rfl,SqT.of e4,rfl,_,_,rfl,rfl,_,rfl,iteD (fun c1=>?_) (fun c1=>⟨_,rfl,iteF (iteT (rz (no (by omega))))⟩)⟩
      refine ⟨_,rfl,_,_,rfl,rfl,_,rfl,iteD (fun c2=>?_) (fun c2=>iteT (rz (no (by omega))))⟩
      refine ⟨_,rfl,pr,_,_,_,rfl,rfl,SqT.of e4,rfl,_,_,rfl,rfl,_,rfl,iteD (fun c3=>?_) (fun c3=>⟨_,rfl,iteT (rz (no (by omega)))⟩)⟩
      refine ⟨_,rfl,_,_,rfl,rfl,_,rfl,?_⟩
      by_cases c4:r.t < n
      · rw [decide_eq_true c4]
        exact iteF ⟨_,_,rfl,s2,all_take al er (by simp only [endOk,Bool.and_eq_true,decide_eq_true_eq]; omega)⟩
      · rw [decide_eq_false c4]
        exact iteT (rz (no (by omega)))
    · rintro σ H' ⟨u,v,rfl,s',al⟩
      exact q (by rw [hl,List.take_length] at al; exact al) _ s'
def spMay (a:Adr) (kd:Kd):Sp:=fun vs H Q _=>∃ (p lp:Addr) (xs:List V) (ws:List Wd),vs=[.ref p,.ref lp]∧KindAt a H p kd∧H lp=some (.lst xs)∧IsWs H xs ws∧ws.length≤64∧(kd=.chances→∀ x∈ws,Sm 4000 x)∧∀ H',Same H H'→Q (.bl (mayB kd ws)) H'
theorem sc_Kind_may_start_together:FnScope ["self","somes"] ["self","somes"] (defScope (inClass (top 36) 7)):=⟨rfl,rfl,rfl,by decide +kernel,rfl,by decide +kernel,by decide +kernel⟩
theorem sc_Chances_may_start_together:FnScope ["self","somes","all_of_them","some"] ["self","somes"] (defScope (inClass (top 41) 6)):=⟨rfl,rfl,rfl,by decide +kernel,rfl,by decide +kernel,by decide +kernel⟩
structure At_may_start_together (K:PySem.W.Frag) (a:Adr):Prop where
  fFewest:MthAt K a.cFewest "may_start_together" "Kind.may_start_together" (inClass (top 36) 7)
  fWidest:MthAt K a.cWidest "may_start_together" "Kind.may_start_together" (inClass (top 36) 7)
  fCounted:MthAt K a.cCounted "may_start_together" "Kind.may_start_together" (inClass (top 36) 7)
  fLikeliest:MthAt K a.cLikeliest "may_start_together" "Kind.may_start_together" (inClass (top 36) 7)
  fChances:MthAt K a.cChances "may_start_together" "Chances.may_start_together" (inClass (top 41) 6)
  fMusts:MthAt K a.cMusts "may_start_together" "Kind.may_start_together" (inClass (top 36) 7)
  fRests:MthAt K a.cRests "may_start_together" "Kind.may_start_together" (inClass (top 36) 7)
theorem len_may {kd:Kd} {vs:List V} {H:Hp} {Q:VK} {E:XK} (h:spMay a kd vs H Q E):vs.length=2:=by
  obtain ⟨_,_,_,_,rfl,_⟩:=h
  rfl
theorem shSum_take {ws:List Wd} {i:Nat} {x:Wd} (e:ws[i]?=some x):shSum (ws.take (i + 1))=if isShare x=true then shSum (ws.take i) + toR x else shSum (ws.take i):=by
  unfold shSum
  rw [List.take_add_one,e,List.filter_append,List.map_append,List.sum_append]
  split
  · rename_i h; simp [h,Rat.add_zero]
  · rename_i h; simp [h,Rat.add_zero]
theorem v_may (T:Tx K mg a) (V_none:Mth P w K mg base 1 a.cl "none" ["self"] (fun i=>spZero a i.1)) (D_is_share:Dn P w K mg base 2 "is_share" ["some"] spIsShare) (D_added:Dn P w K mg base 34 "added" ["one","other"] (spTwo fun p q=>p + q))
    (D_lacking_to_one:Dn P w K mg base 34 "lacking_to_one" ["share"] spLack) (F:At_may_start_together K a):Mth P w K mg base 36 a.cl "may_start_together" ["self","somes"] (fun i=>spMay a i.1):=by
  refine ⟨fun ⟨kd,hk⟩=>?_⟩
  cases kd with
  | fewest =>
    refine m_of hk T F.fFewest (fun _ _ _ _ _ _ us hl=>match us,hl with | [_,_],_=>rfl) fun f fd F=>F.okN sc_Kind_may_start_together (fun _ _ _ _=>len_may) (fun cdv A outer s H vs Q E hr h=>?_)
    obtain ⟨p,lp,xs,ws,rfl,_,_,_,_,_,q⟩:=h
    exact ⟨_,(pss_one (ps_ret pe_bl)),q _ (Same.refl H)⟩
  | widest =>
    refine m_of hk T F.fWidest (fun _ _ _ _ _ _ us hl=>match us,hl with | [_,_],_=>rfl) fun f fd F=>F.okN sc_Kind_may_start_together (fun _ _ _ _=>len_may) (fun cdv A outer s H vs Q E hr h=>?_)
    obtain ⟨p,lp,xs,ws,rfl,_,_,_,_,_,q⟩:=h
    exact ⟨_,(pss_one (ps_ret pe_bl)),q _ (Same.refl H)⟩
  | counted =>
    refine m_of hk T F.fCounted (fun _ _ _ _ _ _ us hl=>match us,hl with | [_,_],_=>rfl) fun f fd F=>F.okN sc_Kind_may_start_together (fun _ _ _ _=>len_may) (fun cdv A outer s H vs Q E hr h=>?_)
    obtain ⟨p,lp,xs,ws,rfl,_,_,_,_,_,q⟩:=h
    exact ⟨_,(pss_one (ps_ret pe_bl)),q _ (Same.refl H)⟩
  | likeliest =>
    refine m_of hk T F.fLikeliest (fun _ _ _ _ _ _ us hl=>match us,hl with | [_,_],_=>rfl) fun f fd F=>F.okN sc_Kind_may_start_together (fun _ _ _ _=>len_may) (fun cdv A outer s H vs Q E hr h=>?_)
    obtain ⟨p,lp,xs,ws,rfl,_,_,_,_,_,q⟩:=h
    exact ⟨_,(pss_one (ps_ret pe_bl)),q _ (Same.refl H)⟩
  | chances =>
    refine m_of hk T F.fChances (fun _ _ _ _ _ _ us hl=>match us,hl with | [_,_],_=>rfl) fun f fd F=>F.okN sc_Chances_may_start_together (fun _ _ _ _=>len_may) (fun cdv A outer s H vs Q E hr h=>?_)
    obtain ⟨p,lp,xs,ws,rfl,⟨dx,hp⟩,hx,hW,h64,sm,q⟩:=h
    have sm:=sm rfl
    refine ⟨_,(pss_cons (ps_set (i:=2) sc_Chances_may_start_together.nd rfl (Or.inl rfl) (pe_methV0 (pv 0) V_none (hr.mono (by decide)) passE0))
      (pss_cons (ps_for PassesOwn.never rfl (pi_list (pv 1)) (pg_name (i:=3) sc_Chances_may_start_together.nd rfl (Or.inl rfl)) (pss_one (ps_if (pt_val (pe_callD D_is_share (hr.mono (by decide)) rfl passE0 (pa_cons (hs:=st_Name) (pv 3) pa_nil)) (fun _=>rfl)) (pss_one (ps_set (i:=2) sc_Chances_may_start_together.nd rfl (Or.inl rfl) (pe_callD D_added (hr.mono (by decide)) rfl passE0 (pa_cons (hs:=st_Name) (pv 2) (pa_cons (hs:=st_Name) (pv 3) pa_nil))))) pss_nil)))
      (pss_one (ps_ret (pe_cmpR op_ge (pe_ix ix_tup (pe_callD D_lacking_to_one (hr.mono (by decide)) rfl passE0 (pa_cons (hs:=st_Name) (pv 2) pa_nil)) pe_int (fun _ _=>rfl)) pe_int (nomark _)))))),?_⟩
    refine ⟨_,rfl,⟨.chances,hk⟩,p,dx,_,rfl,hp,kfs_no _ (by decide +kernel),p,trivial,rfl,⟨dx,hp⟩,fun v0 H0 s0 hv0=>?_⟩
    refine ⟨_,rfl,lp,rfl,⟨xs,SqL.of (s0 _ _ hx)⟩,for_list (xs:=xs) (fun i σ H'=>∃ v l,σ=[some (.ref p),some (.ref lp),some v,l]∧Same H H'∧IsW H' v (ofR (shSum (ws.take i)))∧Sm (4001 * i + 30) (ofR (shSum (ws.take i))))
      ⟨v0,_,rfl,s0,hv0,(show Sm 30 (ofR 0) by decide)⟩ (fun i σ H' _ ⟨_,_,_,s',_⟩=>SqL.of (s' _ _ hx)) ?_ ?_⟩
    · rintro i x σ H' ex ⟨v,l,rfl,s',hv,sv⟩
      obtain ⟨y,ey,hy⟩:=pget hW ex
      have hi:i < 64:=by have:=(List.getElem?_eq_some_iff.mp ey).1; omega
      refine ⟨_,rfl,x,y,rfl,hy.same s',_,rfl,iteB (fun c=>?_) (fun c=>?_)⟩
      · have ey2:=ofR_toR c
        have sy:=sm y (List.mem_of_getElem? ey)
        refine ⟨_,rfl,_,rfl,v,x,_,toR y,rfl,hv,by rw [ey2]; exact hy.same s',sv.mono (by show _≤16000000; omega),by rw [ey2]; exact sy.mono (by decide),fun v2 H2 s2 hv2=>⟨v2,_,rfl,s'.trans s2,?_,?_⟩⟩
        · rw [shSum_take ey,if_pos c]; exact hv2
        · rw [shSum_take ey,if_pos c]
          have:=sm_addR sv (by rw [ey2]; exact sy)
          exact this.mono (by omega)
      · refine ⟨v,_,rfl,s',?_,?_⟩
        · rw [shSum_take ey,if_neg (by simp [c])]; exact hv
        · rw [shSum_take ey,if_neg (by simp [c])]; exact sv.mono (by omega)
    · rintro σ H' ⟨v,l,rfl,s',hv,sv⟩
      refine ⟨_,rfl,v,_,rfl,hv,fun v2 H2 s2 hv2=>?_⟩
      obtain ⟨r,rfl,er⟩:=isW_pair hv2
      refine ⟨r,_,_,_,rfl,rfl,SqT.of er,rfl,_,_,rfl,rfl,?_⟩
      rw [hW.length,List.take_length] at er
      have e:decide (0≤(1 - shSum (List.take xs.length ws)).num)=mayB .chances ws:=by
        rw [hW.length,List.take_length]
        show _=decide (shSum ws≤1)
        refine decide_eq_decide.mpr ⟨fun z=>?_,fun z=>?_⟩
        · have:=Rat.num_nonneg.mp z; grind
        · exact Rat.num_nonneg.mpr (by grind)
      dsimp only
      rw [e]
      exact q _ (s'.trans s2)
  | musts =>
    refine m_of hk T F.fMusts (fun _ _ _ _ _ _ us hl=>match us,hl with | [_,_],_=>rfl) fun f fd F=>F.okN sc_Kind_may_start_together (fun _ _ _ _=>len_may) (fun cdv A outer s H vs Q E hr h=>?_)
    obtain ⟨p,lp,xs,ws,rfl,_,_,_,_,_,q⟩:=h
    exact ⟨_,(pss_one (ps_ret pe_bl)),q _ (Same.refl H)⟩
  | rests m =>
    refine m_of (kd:=.rests m) hk T F.fRests (fun _ _ _ _ _ _ us hl=>match us,hl with | [_,_],_=>rfl) fun f fd F=>F.okN sc_Kind_may_start_together (fun _ _ _ _=>len_may) (fun cdv A outer s H vs Q E hr h=>?_)
    obtain ⟨p,lp,xs,ws,rfl,_,_,_,_,_,q⟩:=h
    exact ⟨_,(pss_one (ps_ret pe_bl)),q _ (Same.refl H)⟩
def spStarts (a:Adr):Sp:=fun vs H Q E=>∃ (kd:Kd) (kp:Addr) (n:Int) (rl:Addr) (xs:List V) (rs:List Road),vs=[.ref kp,.int n,.ref rl]∧KindAt a H kp kd∧HasK kd∧1≤n∧n≤8∧H rl=some (.lst xs)∧IsRoads H xs rs∧xs.length≤64∧(kd=.chances→∀ r∈rs,Sm 4000 r.w) ∧
  (startsOk kd n rs=true→∀ H',Same H H'→Q .non H')∧(startsOk kd n rs=false→∀ H',Same H H'→E (.ref a.cNoNet) none H')
theorem frm_take {p:Int} {rs:List Road} {i:Nat} {r:Road} (e:rs[i]?=some r):frm p (rs.take (i + 1))=if r.f=p then frm p (rs.take i) ++ [r.w] else frm p (rs.take i):=by
  unfold frm
  rw [List.take_add_one,e,List.filter_append,List.map_append]
  split
  · rename_i h; simp [h]
  · rename_i h; simp [h]
theorem sc_check_starts:FnScope ["kind","places","roads","place"] ["kind","places","roads"] (defScope (top 13)):=⟨rfl,rfl,rfl,by decide +kernel,rfl,by decide +kernel,by decide +kernel⟩
theorem d_check_starts (T : Tx K mg a) (V_may_start_together : Mth P w K mg base 36 a.cl "may_start_together" ["self", "somes"] (fun i => spMay a i.1)) (F : DefAt K mg "check_starts" (top 13)) : Dn P w K mg base 37 "check_starts" ["kind", "places", "roads"] (spStarts a) := by
  obtain ⟨f, fd, hm, F⟩ := F.ex
  refine ⟨f, fd, hm, F.kp, F.binds fun _ _ _ _ _ _ us hl => match us, hl with | [_, _, _], _ => rfl, ?_⟩
  refine F.okX sc_check_starts (fun vs H Q E h => ?_) (fun cdv A outer s H vs Q E hr h => ?_)
  · obtain ⟨_, _, _, _, _, _, rfl, _⟩ := h
    rfl
  · obtain ⟨kd, kp, n, rl, xs, rs, rfl, ⟨dx, hk⟩, hK, n1, n8, hx, hR, h64, sm, q, e⟩ := h
    refine ⟨_, (pss_one (ps_for own_cx rfl (pi_range1 rfl T.b_range (pa_cons (hs := st_Name) (pv 1) pa_nil)) (pg_name (i := 3) sc_check_starts.nd rfl (Or.inr rfl)) (pss_one (ps_if (pt_not (pt_val (pe_methV (pv 0) V_may_start_together (hr.mono (by decide)) pass_cx (pa_cons (hs := st_ListComp) (pe_comp (N := ["kind", "places", "roads", "place"]) (osc := defScope (top 13)) (k := 1) (N' := ["road", "place"]) (fr := [3]) ⟨rfl, by decide +kernel, by decide +kernel, by decide +kernel, rfl, by decide +kernel, by decide +kernel⟩ rfl rfl rfl (pi_list (pv 2)) (fun ca => ⟨(pg_name (i := 0) (show List.Nodup (["road", "place"] : List Str) from by decide +kernel) rfl (Or.inl rfl)), (pts_one (pt_cmpR op_eq (pe_ix ix_tup (pv 0) pe_int (fun _ _ => rfl)) (pv 1) (nomark _))), (pe_ix ix_tup (pv 0) pe_int (fun _ _ => rfl))⟩)) pa_nil)) (fun _ => rfl))) (pss_one (ps_raise T.x_NoNet rfl rfl rais_cx (pa_cons (hs := st_JoinedStr) (pe_fstrN (pj_str (pj_int (pv 3) (pj_str pj_nil)))) pa_nil))) pss_nil)))), ?_⟩
    have hs1 : (Str.ofString "the roads that go from place ").length ≤ 1000 := by decide +kernel
    have hs2 : (Str.ofString " come to more than 1").length ≤ 1000 := by decide +kernel
    have hl := hR.length
    refine ⟨_, rfl, n, rfl, by omega, by omega, for_range (n := n.toNat) (fun i σ H' => ∃ u, σ = [some (.ref kp), some (.int n), some (.ref rl), u] ∧ Same H H' ∧ (List.range i).all (fun p => mayB kd (frm (p : Int) rs)) = true) ⟨_, rfl, Same.refl H, by simp⟩ ?_ ?_⟩
    · rintro i σ H' hi ⟨u, rfl, s', al⟩
      refine ⟨_, rfl, ⟨kd, hK⟩, kp, dx, _, rfl, s' _ _ hk, kfs_no _ (by decide +kernel), ?_⟩
      refine ⟨_, rfl, rl, rfl, ⟨xs, SqL.of (s' _ _ hx)⟩, comp_list (xs := xs) (fun j ys H2 => Same H H2 ∧ IsWs H2 ys (frm (0 + (i : Nat)) (rs.take j))) (lines (by omega)) ⟨s', by simp [frm]; exact .nil⟩ (fun j ys H2 _ ⟨s2, _⟩ => SqL.of (s2 _ _ hx)) ?_ ?_⟩
      · rintro j x ys H2 ex ⟨s2, hy⟩ ca
        obtain ⟨r, er, pr, wv, rfl, e2, e3⟩ := pget hR ex
        refine ⟨⟨rfl, rfl⟩, _, rfl, pr, _, _, _, rfl, rfl, SqT.of (s2 _ _ e2), rfl, _, rfl, rfl, _, rfl, iteEqI (fun c => ?_) (fun c => ?_)⟩
        · refine ⟨_, rfl, pr, _, _, _, rfl, rfl, SqT.of (s2 _ _ e2), rfl, s2, ?_⟩
          rw [frm_take er, if_pos c]
          exact hy.snoc (e3.same s2)
        · refine ⟨s2, ?_⟩
          rw [frm_take er, if_neg c]
          exact hy
      · rintro ys H2 ⟨s2, hy⟩ lp nl
        rw [hl, List.take_length] at hy
        have s3 : Same H (upd H2 lp (.lst ys)) := s2.trans (same_one nl)
        have fl := frm_len (0 + (i : Nat)) rs
        refine ⟨kp, lp, ys, frm (0 + (i : Nat)) rs, rfl, ⟨dx, s3 _ _ hk⟩, upd_same, hy.same (same_one nl), by omega, fun ec x hx' => ?_, fun H4 s4 => ⟨_, rfl, ?_⟩⟩
        · obtain ⟨r, hr', rfl⟩ := List.mem_map.mp hx'
          exact sm ec r (List.mem_filter.mp hr').1
        · have s5 := s3.trans s4
          have ei : (0 + (i : Int)) = (i : Int) := by omega
          cases c : mayB kd (frm (0 + (i : Nat)) rs) with
          | true =>
            refine iteF ⟨_, rfl, s5, ?_⟩
            rw [List.range_succ, List.all_append, al]
            rw [ei] at c
            simp [c]
          | false =>
            refine iteT ⟨hs1, _, rfl, _, rfl, log2_small (by have : (8 : Nat) < 10 ^ 62 := by decide
                                                             omega), hs2, fun z => ⟨by show 1 ≤ sizeLine; decide, e ?_ _ s5⟩⟩
            rw [startsOk, List.all_eq_false]
            rw [ei] at c
            exact ⟨i, List.mem_range.mpr hi, by simp [c]⟩
    · rintro σ H' ⟨u, rfl, s', al⟩
      exact q al _ s'
def spWorths (a:Adr):Sp:=fun vs H Q E=>∃ (kd:Kd) (kp:Addr) (rl:Addr) (xs:List V) (rs:List Road),vs=[.ref kp,.ref rl]∧KindAt a H kp kd∧HasK kd∧KdOk kd∧H rl=some (.lst xs)∧IsRoads H xs rs∧xs.length≤64 ∧
  (worthsOk kd rs=true→∀ H',Same H H'→Q .non H')∧(worthsOk kd rs=false→∀ H',Same H H'→E (.ref a.cNoWorth) none H')
theorem sc_check_worths:FnScope ["kind","roads","number","road"] ["kind","roads"] (defScope (top 14)):=⟨rfl,rfl,rfl,by decide +kernel,rfl,by decide +kernel,by decide +kernel⟩
theorem d_check_worths (T : Tx K mg a) (V_is_worth : Mth P w K mg base 3 a.cl "is_worth" ["self", "some"] (fun i => spIsWorth a i.1)) (F : DefAt K mg "check_worths" (top 14)) : Dn P w K mg base 4 "check_worths" ["kind", "roads"] (spWorths a) := by
  obtain ⟨f, fd, hm, F⟩ := F.ex
  refine ⟨f, fd, hm, F.kp, F.binds fun _ _ _ _ _ _ us hl => match us, hl with | [_, _], _ => rfl, ?_⟩
  refine F.okX sc_check_worths (fun vs H Q E h => ?_) (fun cdv A outer s H vs Q E hr h => ?_)
  · obtain ⟨_, _, _, _, _, rfl, _⟩ := h
    rfl
  · obtain ⟨kd, kp, rl, xs, rs, rfl, ⟨dx, hk⟩, hK, ok, hx, hR, h64, q, e⟩ := h
    refine ⟨_, (pss_one (ps_for own_cx rfl (pi_enum rfl T.b_enumerate (pa_cons (hs := st_Name) (pv 1) pa_nil)) (pg_tup rfl (pgs_cons (pg_name (i := 2) sc_check_worths.nd rfl (Or.inl rfl)) (pgs_cons (pg_name (i := 3) sc_check_worths.nd rfl (Or.inl rfl)) pgs_nil))) (pss_one (ps_if (pt_not (pt_val (pe_methV (pv 0) V_is_worth (hr.mono (by decide)) pass_cx (pa_cons (hs := st_Subscript) (pe_ix ix_tup (pv 3) pe_int (fun _ _ => rfl)) pa_nil)) (fun _ => rfl))) (pss_one (ps_raise T.x_NoWorth rfl rfl rais_cx (pa_cons (hs := st_JoinedStr) (pe_fstrN (pj_str (pj_int (pv 2) (pj_str pj_nil)))) pa_nil))) pss_nil)))), ?_⟩
    have hs1 : (Str.ofString "the worth of road ").length ≤ 1000 := by decide +kernel
    have hs2 : (Str.ofString " is none of the kind").length ≤ 1000 := by decide +kernel
    have hl := hR.length
    refine ⟨_, rfl, rl, rfl, ⟨xs, SqL.of hx⟩, for_enum (xs := xs) (fun i σ H' => ∃ u v, σ = [some (.ref kp), some (.ref rl), u, v] ∧ Same H H' ∧ worthsOk kd (rs.take i) = true) ⟨_, _, rfl, Same.refl H, by simp [worthsOk]⟩ (fun i σ H' _ ⟨_, _, _, s', _⟩ => SqL.of (s' _ _ hx)) ?_ ?_⟩
    · rintro i x σ H' p ex ⟨u, v, rfl, s', al⟩ np
      obtain ⟨r, er, pr, wv, rfl, e2, e3⟩ := pget hR ex
      have s2 : Same H (upd H' p (.tup [.int (i : Nat), .ref pr])) := s'.trans (same_one np)
      have hi : i < xs.length := (List.getElem?_eq_some_iff.mp ex).1
      refine ⟨p, _, rfl, SqT.of upd_same, rfl, _, _, rfl, _, _, rfl, rfl, ?_⟩
      refine ⟨_, rfl, ⟨kd, hK⟩, kp, dx, _, rfl, s2 _ _ hk, kfs_no _ (by decide +kernel), _, rfl, pr, _, _, _, rfl, rfl, SqT.of (s2 _ _ e2), rfl, kp, wv, r.w, rfl, ⟨dx, s2 _ _ hk⟩, ok, e3.same s2, _, rfl, ?_⟩
      cases c : isWorth kd r.w with
      | true => exact iteF ⟨_, _, rfl, s2, all_take al er c⟩
      | false =>
        refine iteT ⟨hs1, _, rfl, _, rfl, log2_small (by have : (64 : Nat) < 10 ^ 62 := by decide
                                                         omega), hs2, fun z => ⟨by show 1 ≤ sizeLine; decide, e ?_ _ s2⟩⟩
        exact all_not er c
    · rintro σ H' ⟨u, v, rfl, s', al⟩
      exact q (by rw [hl, List.take_length] at al; exact al) _ s'
end
end K14
namespace K14
open PySem L2 Ws
seal PE PT PW PA PC PS PSs PG PGs PI PO PJ PTs
section
variable {P : Program} {w : World} {K : PySem.W.Frag} {mg : Str → Option Value} {base : Heap} {a : Adr}
def SameBut (self:Addr) (H H':Hp):Prop:=∀ p o,p≠self→H p=some o→H' p=some o
def spNet (a:Adr):Sp:=fun vs H Q E=>∃ (self dx:Addr) (kd:Kd) (kp:Addr) (n:Int) (rl:Addr) (xs:List V) (rs:List Road),vs=[.ref self,.ref kp,.int n,.ref rl]∧H self=some (.ins a.cNet dx [])∧KindAt a H kp kd∧HasK kd∧KdOk kd∧kp≠self∧n.natAbs.log2 < 1920∧H rl=some (.lst xs)∧IsRoads H xs rs ∧
  (kd=.chances→xs.length≤64→∀ r∈rs,Sm 4000 r.w) ∧
  (netYes kd n rs=true→worthsOk kd rs=true→∀ tp H',SameBut self H H'→H' self=some (.ins a.cNet dx [("own_kind",.ref kp),("how_many",.int n),("own_roads",.ref tp)])→H' tp=some (.tup xs)→Q .non H') ∧
  (netYes kd n rs=false→∀ H',Same H H'→E (.ref a.cNoNet) none H')∧(netYes kd n rs=true→worthsOk kd rs=false→∀ H',Same H H'→E (.ref a.cNoWorth) none H')
theorem sc_Net_init:FnScope ["self","kind","places","roads"] ["self","kind","places","roads"] (defScope (inClass (top 16) 0)):=⟨rfl,rfl,rfl,by decide +kernel,rfl,by decide +kernel,by decide +kernel⟩
theorem make_Net (T:Tx K mg a) (D_check_numbers:Dn P w K mg base 1 "check_numbers" ["places","roads"] (spNums a)) (D_check_ends:Dn P w K mg base 1 "check_ends" ["places","roads"] (spEnds a))
    (D_check_starts:Dn P w K mg base 37 "check_starts" ["kind","places","roads"] (spStarts a)) (D_check_worths:Dn P w K mg base 4 "check_worths" ["kind","roads"] (spWorths a))
    (F:MthAt K a.cNet "__init__" "Net.__init__" (inClass (top 16) 0)):Mkr P w K mg base 38 "Net" a.cNet ["self","kind","places","roads"] (spNet a):=by
  obtain ⟨f,fd,hf,hi,F⟩:=F.ex
  refine ⟨T.g_Net,f,fd,⟨T.mk_Net,hf,hi,T.kp_Net⟩,F.binds fun _ _ _ _ _ _ us hl=>match us,hl with | [_,_,_,_],_=>rfl,?_⟩
  refine F.okX sc_Net_init (fun vs H Q E h=>?_) (fun cdv A outer s H vs Q E hr h=>?_)
  · obtain ⟨_,_,_,_,_,_,_,_,rfl,_⟩:=h
    rfl
  · obtain ⟨self,dx,kd,kp,n,rl,xs,rs,rfl,hself,⟨kdx,hk⟩,hK,ok,nk,hn,hx,hR,sm,q,e1,e2⟩:=h
    refine ⟨_,(pss_cons (ps_expr (pe_callD D_check_numbers (hr.mono (by decide)) rfl pass_cx (pa_cons (hs:=st_Name) (pv 2) (pa_cons (hs:=st_Name) (pv 3) pa_nil))))
      (pss_cons (ps_expr (pe_callD D_check_ends (hr.mono (by decide)) rfl pass_cx (pa_cons (hs:=st_Name) (pv 2) (pa_cons (hs:=st_Name) (pv 3) pa_nil))))
      (pss_cons (ps_expr (pe_callD D_check_starts (hr.mono (by decide)) rfl pass_cx (pa_cons (hs:=st_Name) (pv 1) (pa_cons (hs:=st_Name) (pv 2) (pa_cons (hs:=st_Name) (pv 3) pa_nil)))))
      (pss_cons (ps_expr (pe_callD D_check_worths (hr.mono (by decide)) rfl pass_cx (pa_cons (hs:=st_Name) (pv 1) (pa_cons (hs:=st_Name) (pv 3) pa_nil))))
      (pss_cons (ps_fld (pv 0) (pv 1) rfl)
      (pss_cons (ps_fld (pv 0) (pv 2) rfl)
      (pss_one (ps_fld (pv 0) (pe_callTy call_tuple_of rfl T.b_tuple bt_tuple (pa_cons (hs:=st_Name) (pv 3) pa_nil)) rfl)))))))),?_⟩
    have hl:=hR.length
    have no1:numsOk n xs.length=false→netYes kd n rs=false:=fun z=>by rw [netYes,← hl,z]; rfl
    refine ⟨_,rfl,_,rfl,n,rl,xs,rfl,hx,hn,fun y1=>?_,fun z=>e1 (no1 z) _ (Same.refl H)⟩
    have yy:=y1
    simp only [numsOk,Bool.and_eq_true,decide_eq_true_eq] at yy
    refine ⟨_,rfl,_,rfl,n,rl,xs,rs,rfl,hx,hR,by omega,fun y2 H1 s1=>?_,fun z H1 s1=>e1 (by rw [netYes,z]; simp) _ s1⟩
    refine ⟨_,rfl,_,rfl,_,rfl,kd,kp,n,rl,xs,rs,rfl,⟨kdx,s1 _ _ hk⟩,hK,by omega,by omega,s1 _ _ hx,hR.same s1,by omega,fun c=>sm c (by omega),fun y3 H2 s2=>?_,fun z H2 s2=>e1 (by rw [netYes,z]; simp) _ (s1.trans s2)⟩
    have yes:netYes kd n rs=true:=by rw [netYes,← hl,y1,y2,y3]; rfl
    have s12:=s1.trans s2
    refine ⟨_,rfl,_,rfl,kd,kp,rl,xs,rs,rfl,⟨kdx,s12 _ _ hk⟩,hK,ok,s12 _ _ hx,hR.same s12,by omega,fun y4 H3 s3=>?_,fun z H3 s3=>e2 yes z _ (s12.trans s3)⟩
    have s13:=s12.trans s3
    refine ⟨_,rfl,_,rfl,self,_,dx,[],rfl,s13 _ _ hself,T.cl_Net,T.na_Net_own_kind,(by show 0 < 1000; decide),?_⟩
    refine ⟨_,rfl,_,rfl,self,_,dx,_,rfl,upd_same,T.cl_Net,T.na_Net_how_many,(by show 1 < 1000; decide),?_⟩
    have nr:rl≠self:=ne_of hx hself (by intro z; cases z)
    refine ⟨_,rfl,rl,xs,rfl,.inl ⟨SqL.of (by rw [upd_ne nr,upd_ne nr]; exact s13 _ _ hx),fun tp ntp=>?_⟩⟩
    have nt:tp≠self:=fun z=>by rw [z,upd_same] at ntp; cases ntp
    refine ⟨_,rfl,self,_,dx,_,rfl,by rw [upd_ne (Ne.symm nt)]; exact upd_same,T.cl_Net,T.na_Net_own_roads,(by show 2 < 1000; decide),?_⟩
    refine q yes y4 tp _ (fun b o nb hb=>?_) upd_same ?_
    · have:upd (upd H3 self (HO.ins a.cNet dx (putF (Str.ofString "own_kind") (V.ref kp) []))) self (HO.ins a.cNet dx (putF (Str.ofString "how_many") (V.int n) (putF (Str.ofString "own_kind") (V.ref kp) []))) b=some o:=by
        rw [upd_ne nb,upd_ne nb]; exact s13 _ _ hb
      rw [upd_ne nb,upd_ne (ne_of_none this ntp)]
      exact this
    · rw [upd_ne nt]; exact upd_same
def spNKind (a:Adr):Sp:=fun vs H Q _=>∃ (p kp tp:Addr) (kd:Kd) (n:Nat) (xs:List V) (rs:List Road),vs=[.ref p]∧NetIs a H p kd n kp tp xs rs∧Q (.ref kp) H
def spNPlaces (a:Adr):Sp:=fun vs H Q _=>∃ (p kp tp:Addr) (kd:Kd) (n:Nat) (xs:List V) (rs:List Road),vs=[.ref p]∧NetIs a H p kd n kp tp xs rs∧Q (.int (n:Int)) H
def spNRoads (a:Adr):Sp:=fun vs H Q _=>∃ (p kp tp:Addr) (kd:Kd) (n:Nat) (xs:List V) (rs:List Road),vs=[.ref p]∧NetIs a H p kd n kp tp xs rs∧∀ l,H l=none→Q (.ref l) (upd H l (.lst xs))
theorem sc_Net_kind:FnScope ["self"] ["self"] (defScope (inClass (top 16) 1)):=⟨rfl,rfl,rfl,by decide +kernel,rfl,by decide +kernel,by decide +kernel⟩
theorem sc_Net_places:FnScope ["self"] ["self"] (defScope (inClass (top 16) 2)):=⟨rfl,rfl,rfl,by decide +kernel,rfl,by decide +kernel,by decide +kernel⟩
theorem sc_Net_roads:FnScope ["self"] ["self"] (defScope (inClass (top 16) 3)):=⟨rfl,rfl,rfl,by decide +kernel,rfl,by decide +kernel,by decide +kernel⟩
theorem n_of {m qual:Str} {st:Stmt} {ps:List Str} {k:Nat} {sp:Sp} (T:Tx K mg a) (F:MthAt K a.cNet m qual st)
    (hb:∀ (kV doc pm:Value) (an:Option Addr) (cdv ct:Value) (us:List Value),us.length=ps.length→bindArgs (PySem.W.fnOf m qual (defArgs st) (defBody st) (defScope st) .none kV doc pm an cdv ct) ⟨us,[]⟩=pure (ps.zip us))
    (h:∀ f fd,Fun K m qual st f fd→FnOk P w K mg base (CXE P w) k f fd ps sp):Mth P w K mg base k (fun _:Unit=>a.cNet) m ps (fun _=>sp):=by
  refine ⟨fun _=>?_⟩
  obtain ⟨f,fd,hf,hi,F⟩:=F.ex
  exact ⟨T.cl_Net,f,fd,⟨hf,hi,F.kp⟩,F.binds hb,h f fd F⟩
theorem v_kind (T:Tx K mg a) (F:MthAt K a.cNet "kind" "Net.kind" (inClass (top 16) 1)):Mth P w K mg base 1 (fun _:Unit=>a.cNet) "kind" ["self"] (fun _=>spNKind a) :=
  n_of T F (fun _ _ _ _ _ _ us hl=>match us,hl with | [_],_=>rfl) fun f fd F=>F.okN sc_Net_kind (fun vs H Q E h=>by obtain ⟨_,_,_,_,_,_,_,rfl,_⟩:=h; rfl) (fun cdv A outer s H vs Q E hr h=>by
    obtain ⟨p,kp,tp,kd,n,xs,rs,rfl,⟨⟨dx,hp⟩,_,_,_⟩,q⟩:=h
    exact ⟨_,(pss_one (ps_ret (pe_fld (pv 0) rfl))),⟨_,rfl,p,_,dx,_,_,rfl,hp,T.cl_Net,T.na_Net_own_kind,rfl,q⟩⟩)
theorem v_places (T:Tx K mg a) (F:MthAt K a.cNet "places" "Net.places" (inClass (top 16) 2)):Mth P w K mg base 1 (fun _:Unit=>a.cNet) "places" ["self"] (fun _=>spNPlaces a) :=
  n_of T F (fun _ _ _ _ _ _ us hl=>match us,hl with | [_],_=>rfl) fun f fd F=>F.okN sc_Net_places (fun vs H Q E h=>by obtain ⟨_,_,_,_,_,_,_,rfl,_⟩:=h; rfl) (fun cdv A outer s H vs Q E hr h=>by
    obtain ⟨p,kp,tp,kd,n,xs,rs,rfl,⟨⟨dx,hp⟩,_,_,_⟩,q⟩:=h
    exact ⟨_,(pss_one (ps_ret (pe_fld (pv 0) rfl))),⟨_,rfl,p,_,dx,_,_,rfl,hp,T.cl_Net,T.na_Net_how_many,rfl,q⟩⟩)
theorem v_roads (T:Tx K mg a) (F:MthAt K a.cNet "roads" "Net.roads" (inClass (top 16) 3)):Mth P w K mg base 1 (fun _:Unit=>a.cNet) "roads" ["self"] (fun _=>spNRoads a) :=
  n_of T F (fun _ _ _ _ _ _ us hl=>match us,hl with | [_],_=>rfl) fun f fd F=>F.okN sc_Net_roads (fun vs H Q E h=>by obtain ⟨_,_,_,_,_,_,_,rfl,_⟩:=h; rfl) (fun cdv A outer s H vs Q E hr h=>by
    obtain ⟨p,kp,tp,kd,n,xs,rs,rfl,⟨⟨dx,hp⟩,_,ht,_⟩,q⟩:=h
    exact ⟨_,(pss_one (ps_ret (pe_callTy call_list_of rfl T.b_list bt_list (pa_cons (hs:=st_Attribute) (pe_fld (pv 0) rfl) pa_nil)))),⟨_,rfl,p,_,dx,_,_,rfl,hp,T.cl_Net,T.na_Net_own_roads,rfl,tp,xs,rfl,.inr (SqT.of ht),q⟩⟩)
section
variable {H : Hp} {kd : Kd} {kp l : Addr} {n : Int} {xs : List V} {rs : List Road} {Q : Addr → Hp → Prop} {E : XK}
theorem mk_any (hk:KindAt a H kp kd) (hK:HasK kd) (ok:KdOk kd) (hl:H l=some (.lst xs)) (hR:IsRoads H xs rs) (hn:n.natAbs.log2 < 1920) (sm:kd=.chances→xs.length≤64→∀ r∈rs,Sm 4000 r.w)
    (q:netYes kd n rs=true→worthsOk kd rs=true→∀ x tp H',Same H H'→H x=none→NetIs a H' x kd n.toNat kp tp xs rs→Q x H') (e1:netYes kd n rs=false→∀ H',Same H H'→E (.ref a.cNoNet) none H') (e2:netYes kd n rs=true→worthsOk kd rs=false→∀ H',Same H H'→E (.ref a.cNoWorth) none H') :
    ∀ x dx,H x=none→H dx=none→dx≠x→spNet a [.ref x,.ref kp,.int n,.ref l] (upd (upd H dx (.own x)) x (.ins a.cNet dx [])) (fun v H2=>v=.non∧Q x H2) E:=by
  intro x dx nx ndx nex
  have s2:Same H (upd (upd H dx (.own x)) x (.ins a.cNet dx [])):=same_two nx ndx
  obtain ⟨kdx,hkp⟩:=hk
  refine ⟨x,dx,kd,kp,n,l,xs,rs,rfl,upd_same,⟨kdx,s2 _ _ hkp⟩,hK,ok,ne_of_none hkp nx,hn,s2 _ _ hl,hR.same s2,sm,fun y1 y2 tp H' sb hs ht=>⟨rfl,?_⟩,fun z H' s'=>e1 z H' (s2.trans s'),fun y z H' s'=>e2 y z H' (s2.trans s')⟩
  have s3:Same H H':=fun p o e=>sb p o (ne_of_none e nx) (s2 p o e)
  have n0:1≤n:=by
    simp only [netYes,numsOk,Bool.and_eq_true,decide_eq_true_eq] at y1
    exact y1.1.1.1
  refine q y1 y2 x tp H' s3 nx ⟨⟨dx,?_⟩,⟨kdx,s3 _ _ hkp⟩,ht,hR.same s3⟩
  rw [show ((n.toNat:Nat):Int)=n by omega]
  exact hs
end
end
end K14
namespace K14
open PySem L2 Ws
seal PE PT PW PA PC PS PSs PG PGs PI PO
section
variable {P : Program} {w : World} {K : PySem.W.Frag} {mg : Str → Option Value} {base : Heap} {a : Adr}
theorem isNo {i j:Int} (h:i≠j) {A B:Prop} (b:B):if decide (V.int i=V.int j)=true then A else B:=iteEqI (fun z=>absurd z h) (fun _=>b)
theorem isYes {i:Int} {A B:Prop} (b:A):if decide (V.int i=V.int i)=true then A else B:=iteEqI (fun _=>b) (fun z=>absurd rfl z)
def spLTog:Sp:=fun vs H Q _=>∃ (kd:Kd) (ok:KdOk kd) (v1 v2:V) (x y:Car kd),vs=[.int (kno kd),v1,v2]∧IsW H v1 (enc kd x)∧IsW H v2 (enc kd y)∧Sm Big (enc kd x)∧Sm Big (enc kd y) ∧
  ∀ v H',Same H H'→IsW H' v (enc kd ((ks kd ok).add x y))→Q v H'
theorem sc_law_tog:FnScope ["which","one","other"] ["which","one","other"] (defScope (top 51)):=⟨rfl,rfl,rfl,by decide +kernel,rfl,by decide +kernel,by decide +kernel⟩
theorem d_tog (T:Tx K mg a) (D_law_share:Dn P w K mg base 33 "_law_share" ["top","below"] spShare) (F:DefAt K mg "_law_tog" (top 51)):Dn P w K mg base 34 "_law_tog" ["which","one","other"] spLTog:=by
  obtain ⟨f,fd,hm,F⟩:=F.ex
  refine ⟨f,fd,hm,F.kp,F.binds fun _ _ _ _ _ _ us hl=>match us,hl with | [_,_,_],_=>rfl,?_⟩
  refine F.okN sc_law_tog (fun vs H Q E h=>?_) (fun cdv A outer s H vs Q E hr h=>?_)
  · obtain ⟨_,_,_,_,_,_,rfl,_⟩:=h
    rfl
  · obtain ⟨kd,ok,v1,v2,x,y,rfl,h1,h2,s1,s2,q⟩:=h
    refine ⟨_,(pss_cons (ps_if (PW.pt (pw_or (pt_cmpR op_eq (pv 0) pe_int (nomark _)) (pw_or1 (pt_cmpR op_eq (pv 0) pe_int (nomark _))))) (pss_cons (ps_if (PW.pt (pw_or (pt_cmp (pc_isN (pv 1))) (pw_or1 (pt_cmp (pc_isN (pv 2)))))) (pss_one (ps_ret (pe_ifExp (pt_cmp (pc_isN (pv 1))) (pv 2) (pv 1)))) pss_nil)
      (pss_one (ps_ret (pe_ifExp (pt_cmpR op_eq (pv 0) pe_int (nomark _)) (pe_callB (call_min2 rfl) rfl T.b_min bt_min (pa_cons (hs:=st_Name) (pv 1) (pa_cons (hs:=st_Name) (pv 2) pa_nil))) (pe_op op_and (pv 1) (pv 2)))))) pss_nil)
      (pss_cons (ps_if (pt_cmpR op_eq (pv 0) pe_int (nomark _)) (pss_one (ps_ret (pe_callB (call_max2 rfl) rfl T.b_max bt_max (pa_cons (hs:=st_Name) (pv 1) (pa_cons (hs:=st_Name) (pv 2) pa_nil))))) pss_nil)
      (pss_cons (ps_if (pt_cmpR op_eq (pv 0) pe_int (nomark _)) (pss_one (ps_ret (pe_ifExp (pt_cmpR op_lt (pe_callB (call_min2 rfl) rfl T.b_min bt_min (pa_cons (hs:=st_Name) (pv 1) (pa_cons (hs:=st_Name) (pv 2) pa_nil))) pe_int (nomark _)) (pe_un un_neg pe_int) (pe_op op_add (pv 1) (pv 2))))) pss_nil)
      (pss_cons (ps_if (pt_cmpR op_eq (pv 0) pe_int (nomark _)) (pss_one (ps_ret (pe_ifExp (pt_cmpR op_ge (pe_op op_mulX (pe_ix ix_tup (pv 1) pe_int (fun _ _=>rfl)) (pe_ix ix_tup (pv 2) pe_int (fun _ _=>rfl))) (pe_op op_mulX (pe_ix ix_tup (pv 2) pe_int (fun _ _=>rfl)) (pe_ix ix_tup (pv 1) pe_int (fun _ _=>rfl))) (nomark _)) (pv 1) (pv 2)))) pss_nil)
      (pss_cons (ps_if (pt_cmpR op_eq (pv 0) pe_int (nomark _)) (pss_one (ps_ret (pe_callD D_law_share (hr.mono (by decide)) rfl passE0 (pa_cons (hs:=st_BinOp) (pe_op op_add (pe_op op_mulX (pe_ix ix_tup (pv 1) pe_int (fun _ _=>rfl)) (pe_ix ix_tup (pv 2) pe_int (fun _ _=>rfl))) (pe_op op_mulX (pe_ix ix_tup (pv 2) pe_int (fun _ _=>rfl)) (pe_ix ix_tup (pv 1) pe_int (fun _ _=>rfl)))) (pa_cons (hs:=st_BinOp) (pe_op op_mulX (pe_ix ix_tup (pv 1) pe_int (fun _ _=>rfl)) (pe_ix ix_tup (pv 2) pe_int (fun _ _=>rfl))) pa_nil))))) pss_nil)
      (pss_one (ps_ret (pe_op op_or (pv 1) (pv 2))))))))),?_⟩
    cases kd with
    | fewest =>
      refine t_or_eq rfl (fun _=>?_) (fun z=>absurd (.inl rfl) z)
      rcases x with _ | i
      · obtain rfl:=isW_non h1
        exact ⟨_,rfl,_,rfl,iteT (iteT ⟨_,rfl,_,rfl,iteT ⟨_,rfl,q _ _ (Same.refl H) (by cases y <;> exact h2)⟩⟩)⟩
      · obtain rfl:=isW_int h1
        refine ⟨_,rfl,_,rfl,iteF ?_⟩
        rcases y with _ | j
        · obtain rfl:=isW_non h2
          exact ⟨_,rfl,_,rfl,iteT ⟨_,rfl,_,rfl,iteF ⟨_,rfl,q _ _ (Same.refl H) rfl⟩⟩⟩
        · obtain rfl:=isW_int h2
          exact ⟨_,rfl,_,rfl,iteF ⟨_,rfl,rfl,_,rfl,isYes ⟨_,rfl,_,rfl,_,_,rfl,q _ _ (Same.refl H) (min_if i j)⟩⟩⟩
    | widest =>
      obtain rfl:=isW_int h1
      obtain rfl:=isW_int h2
      refine t_or_eq rfl (fun z=>absurd z (by decide)) (fun _=>?_)
      exact ⟨_,rfl,rfl,_,rfl,isYes ⟨_,rfl,_,rfl,_,_,rfl,q _ _ (Same.refl H) (max_if x.1 y.1)⟩⟩
    | counted =>
      refine t_or_eq rfl (fun z=>absurd z (by decide)) (fun _=>?_)
      refine ⟨_,rfl,rfl,_,rfl,isNo (by decide) ?_⟩
      refine ⟨_,rfl,rfl,_,rfl,isYes ?_⟩
      rcases x with _ | i
      · obtain rfl:=isW_int h1
        rcases y with _ | j
        · obtain rfl:=isW_int h2
          exact ⟨_,rfl,_,rfl,_,_,rfl,_,_,rfl,rfl,_,rfl,iteD (fun _=>⟨_,rfl,q _ _ (Same.refl H) rfl⟩) (fun z=>absurd (by decide) z)⟩
        · obtain rfl:=isW_int h2
          exact ⟨_,rfl,_,rfl,_,_,rfl,_,_,rfl,rfl,_,rfl,iteD (fun _=>⟨_,rfl,q _ _ (Same.refl H) rfl⟩) (fun z=>absurd (by split <;> omega) z)⟩
      · obtain rfl:=isW_int h1
        rcases y with _ | j
        · obtain rfl:=isW_int h2
          exact ⟨_,rfl,_,rfl,_,_,rfl,_,_,rfl,rfl,_,rfl,iteD (fun _=>⟨_,rfl,q _ _ (Same.refl H) rfl⟩) (fun z=>absurd (by split <;> omega) z)⟩
        · obtain rfl:=isW_int h2
          exact ⟨_,rfl,_,rfl,_,_,rfl,_,_,rfl,rfl,_,rfl,iteD (fun z=>absurd z (by split <;> omega)) (fun _=>⟨_,rfl,_,rfl,_,_,rfl,rfl,q _ _ (Same.refl H) (by show (i:Int) + j=((i + j:Nat):Int); omega)⟩)⟩
    | likeliest =>
      obtain ⟨r1,rfl,e1⟩:=isW_pair h1
      obtain ⟨r2,rfl,e2⟩:=isW_pair h2
      refine t_or_eq rfl (fun z=>absurd z (by decide)) (fun _=>?_)
      refine ⟨_,rfl,rfl,_,rfl,isNo (by decide) ?_⟩
      refine ⟨_,rfl,rfl,_,rfl,isNo (by decide) ?_⟩
      refine ⟨_,rfl,rfl,_,rfl,isYes ?_⟩
      refine ⟨_,rfl,r1,_,_,_,rfl,rfl,SqT.of e1,rfl,_,rfl,r2,_,_,_,rfl,rfl,SqT.of e2,rfl,_,_,rfl,rfl,big_mul s1.1 s2.2,?_⟩
      refine ⟨_,rfl,r2,_,_,_,rfl,rfl,SqT.of e2,rfl,_,rfl,r1,_,_,_,rfl,rfl,SqT.of e1,rfl,_,_,rfl,rfl,big_mul s2.1 s1.2,_,_,rfl,rfl,_,rfl,?_⟩
      refine iteD (fun c=>?_) (fun c=>?_)
      · refine ⟨_,rfl,q _ _ (Same.refl H) ?_⟩
        show IsW H _ (ofR (rmax x.1 y.1))
        rw [show rmax x.1 y.1=x.1 from if_neg (fun z=>by have:=(lt_cross x.1 y.1).mpr z; omega)]
        exact h1
      · refine ⟨_,rfl,q _ _ (Same.refl H) ?_⟩
        show IsW H _ (ofR (rmax x.1 y.1))
        rw [show rmax x.1 y.1=y.1 from if_pos ((lt_cross x.1 y.1).mp (by omega))]
        exact h2
    | chances =>
      obtain ⟨r1,rfl,e1⟩:=isW_pair h1
      obtain ⟨r2,rfl,e2⟩:=isW_pair h2
      refine t_or_eq rfl (fun z=>absurd z (by decide)) (fun _=>?_)
      refine ⟨_,rfl,rfl,_,rfl,isNo (by decide) ?_⟩
      refine ⟨_,rfl,rfl,_,rfl,isNo (by decide) ?_⟩
      refine ⟨_,rfl,rfl,_,rfl,isNo (by decide) ?_⟩
      refine ⟨_,rfl,rfl,_,rfl,isYes ?_⟩
      refine ⟨_,rfl,r1,_,_,_,rfl,rfl,SqT.of e1,rfl,_,rfl,r2,_,_,_,rfl,rfl,SqT.of e2,rfl,_,_,rfl,rfl,big_mul s1.1 s2.2,?_⟩
      refine ⟨_,rfl,r2,_,_,_,rfl,rfl,SqT.of e2,rfl,_,rfl,r1,_,_,_,rfl,rfl,SqT.of e1,rfl,_,_,rfl,rfl,big_mul s2.1 s1.2,_,_,rfl,rfl,?_⟩
      refine ⟨_,rfl,r1,_,_,_,rfl,rfl,SqT.of e1,rfl,_,rfl,r2,_,_,_,rfl,rfl,SqT.of e2,rfl,_,_,rfl,rfl,big_mul s1.2 s2.2,?_⟩
      have n1:=Rat.num_nonneg.mpr x.2
      have n2:=Rat.num_nonneg.mpr y.2
      refine ⟨_,_,rfl,Int.add_nonneg (Int.mul_nonneg n1 (Int.le_of_lt (den_pos _))) (Int.mul_nonneg n2 (Int.le_of_lt (den_pos _))),Int.mul_pos (den_pos _) (den_pos _),fun v H' s' hv=>q v H' s' ?_⟩
      rw [add_shareW] at hv
      exact hv
    | musts =>
      refine t_or_eq rfl (fun _=>?_) (fun z=>absurd (.inr rfl) z)
      rcases x with _ | i
      · obtain rfl:=isW_non h1
        exact ⟨_,rfl,_,rfl,iteT (iteT ⟨_,rfl,_,rfl,iteT ⟨_,rfl,q _ _ (Same.refl H) (by cases y <;> exact h2)⟩⟩)⟩
      · obtain rfl:=isW_int h1
        refine ⟨_,rfl,_,rfl,iteF ?_⟩
        rcases y with _ | j
        · obtain rfl:=isW_non h2
          exact ⟨_,rfl,_,rfl,iteT ⟨_,rfl,_,rfl,iteF ⟨_,rfl,q _ _ (Same.refl H) rfl⟩⟩⟩
        · obtain rfl:=isW_int h2
          exact ⟨_,rfl,_,rfl,iteF ⟨_,rfl,rfl,_,rfl,isNo (by decide) ⟨_,rfl,_,rfl,_,_,rfl,rfl,q _ _ (Same.refl H) (bitAnd_nat i j)⟩⟩⟩
    | rests m =>
      obtain rfl:=isW_int h1
      obtain rfl:=isW_int h2
      rw [show kno (Kd.rests m)=6 from rfl]
      refine t_or_eq rfl (fun z=>absurd z (by decide)) (fun _=>?_)
      refine ⟨_,rfl,rfl,_,rfl,isNo (by decide) ?_⟩
      refine ⟨_,rfl,rfl,_,rfl,isNo (by decide) ?_⟩
      refine ⟨_,rfl,rfl,_,rfl,isNo (by decide) ?_⟩
      refine ⟨_,rfl,rfl,_,rfl,isNo (by decide) ?_⟩
      exact ⟨_,rfl,_,rfl,_,_,rfl,rfl,q _ _ (Same.refl H) (bitOr_nat x.1 y.1)⟩
def MIs (kd:Kd) (m:Int):Prop:=∀ n,kd=.rests n→m=n
def spLBeh:Sp:=fun vs H Q _=>∃ (kd:Kd) (ok:KdOk kd) (m:Int) (v1 v2:V) (x y:Car kd),vs=[.int (kno kd),.int m,v1,v2]∧MIs kd m∧IsW H v1 (enc kd x)∧IsW H v2 (enc kd y)∧Sm Big (enc kd x)∧Sm Big (enc kd y) ∧
  ∀ v H',Same H H'→IsW H' v (enc kd ((ks kd ok).mul x y))→Q v H'
theorem sc_law_beh:FnScope ["which","m","one","other","found","i","turned"] ["which","m","one","other"] (defScope (top 52)):=⟨rfl,rfl,rfl,by decide +kernel,rfl,by decide +kernel,by decide +kernel⟩
theorem d_beh (T:Tx K mg a) (D_law_share:Dn P w K mg base 33 "_law_share" ["top","below"] spShare) (F:DefAt K mg "_law_beh" (top 52)):Dn P w K mg base 34 "_law_beh" ["which","m","one","other"] spLBeh:=by
  obtain ⟨f,fd,hm,F⟩:=F.ex
  refine ⟨f,fd,hm,F.kp,F.binds fun _ _ _ _ _ _ us hl=>match us,hl with | [_,_,_,_],_=>rfl,?_⟩
  refine F.okN sc_law_beh (fun vs H Q E h=>?_) (fun cdv A outer s H vs Q E hr h=>?_)
  · obtain ⟨_,_,_,_,_,_,_,rfl,_⟩:=h
    rfl
  · obtain ⟨kd,ok,m,v1,v2,x,y,rfl,hm',h1,h2,s1,s2,q⟩:=h
    refine ⟨_,(pss_cons (ps_if (PW.pt (pw_or (pt_cmpR op_eq (pv 0) pe_int (nomark _)) (pw_or1 (pt_cmpR op_eq (pv 0) pe_int (nomark _))))) (pss_cons (ps_if (PW.pt (pw_or (pt_cmp (pc_isN (pv 2))) (pw_or1 (pt_cmp (pc_isN (pv 3)))))) (pss_one (ps_ret pe_non)) pss_nil)
      (pss_one (ps_ret (pe_ifExp (pt_cmpR op_eq (pv 0) pe_int (nomark _)) (pe_op op_add (pv 2) (pv 3)) (pe_op op_or (pv 2) (pv 3)))))) pss_nil)
      (pss_cons (ps_if (pt_cmpR op_eq (pv 0) pe_int (nomark _)) (pss_one (ps_ret (pe_callB (call_min2 rfl) rfl T.b_min bt_min (pa_cons (hs:=st_Name) (pv 2) (pa_cons (hs:=st_Name) (pv 3) pa_nil))))) pss_nil)
      (pss_cons (ps_if (pt_cmpR op_eq (pv 0) pe_int (nomark _)) (pss_cons (ps_if (PW.pt (pw_or (pt_cmpR op_eq (pv 2) pe_int (nomark _)) (pw_or1 (pt_cmpR op_eq (pv 3) pe_int (nomark _))))) (pss_one (ps_ret pe_int)) pss_nil)
      (pss_one (ps_ret (pe_ifExp (pt_cmpR op_lt (pe_callB (call_min2 rfl) rfl T.b_min bt_min (pa_cons (hs:=st_Name) (pv 2) (pa_cons (hs:=st_Name) (pv 3) pa_nil))) pe_int (nomark _)) (pe_un un_neg pe_int) (pe_op op_mulX (pv 2) (pv 3)))))) pss_nil)
      (pss_cons (ps_if (PW.pt (pw_or (pt_cmpR op_eq (pv 0) pe_int (nomark _)) (pw_or1 (pt_cmpR op_eq (pv 0) pe_int (nomark _))))) (pss_one (ps_ret (pe_callD D_law_share (hr.mono (by decide)) rfl passE0 (pa_cons (hs:=st_BinOp) (pe_op op_mulX (pe_ix ix_tup (pv 2) pe_int (fun _ _=>rfl)) (pe_ix ix_tup (pv 3) pe_int (fun _ _=>rfl))) (pa_cons (hs:=st_BinOp) (pe_op op_mulX (pe_ix ix_tup (pv 2) pe_int (fun _ _=>rfl)) (pe_ix ix_tup (pv 3) pe_int (fun _ _=>rfl))) pa_nil))))) pss_nil)
      (pss_cons (ps_set (i:=4) sc_law_beh.nd rfl (Or.inl rfl) pe_int)
      (pss_cons (ps_for PassesOwn.never rfl (pi_range1 rfl T.b_range (pa_cons (hs:=st_Name) (pv 1) pa_nil)) (pg_name (i:=5) sc_law_beh.nd rfl (Or.inl rfl)) (pss_one (ps_if (pt_cmpR op_eq (pe_op op_and (pe_op op_shr (pv 2) (pv 5)) pe_int) pe_int (nomark _)) (pss_cons (ps_set (i:=6) sc_law_beh.nd rfl (Or.inl rfl) (pe_op op_shl (pv 3) (pv 5)))
      (pss_one (ps_set (i:=4) sc_law_beh.nd rfl (Or.inl rfl) (pe_op op_or (pe_op op_or (pv 4) (pe_op op_and (pv 6) (pe_op op_sub (pe_op op_shl pe_int (pv 1)) pe_int))) (pe_op op_shr (pv 6) (pv 1)))))) pss_nil)))
      (pss_one (ps_ret (pv 4))))))))),?_⟩
    cases kd with
    | fewest =>
      refine t_or_eq rfl (fun _=>?_) (fun z=>absurd (.inl rfl) z)
      rcases x with _ | i
      · obtain rfl:=isW_non h1
        exact ⟨_,rfl,_,rfl,iteT (iteT (q _ _ (Same.refl H) True.intro))⟩
      · obtain rfl:=isW_int h1
        refine ⟨_,rfl,_,rfl,iteF ?_⟩
        rcases y with _ | j
        · obtain rfl:=isW_non h2
          exact ⟨_,rfl,_,rfl,iteT (q _ _ (Same.refl H) True.intro)⟩
        · obtain rfl:=isW_int h2
          exact ⟨_,rfl,_,rfl,iteF ⟨_,rfl,rfl,_,rfl,isYes ⟨_,rfl,_,rfl,_,_,rfl,rfl,q _ _ (Same.refl H) (by show (i:Int) + j=((i + j:Nat):Int); omega)⟩⟩⟩
    | widest =>
      obtain rfl:=isW_int h1
      obtain rfl:=isW_int h2
      refine t_or_eq rfl (fun z=>absurd z (by decide)) (fun _=>?_)
      exact ⟨_,rfl,rfl,_,rfl,isYes ⟨_,rfl,_,rfl,_,_,rfl,q _ _ (Same.refl H) (min_if x.1 y.1)⟩⟩
    | counted =>
      refine t_or_eq rfl (fun z=>absurd z (by decide)) (fun _=>?_)
      refine ⟨_,rfl,rfl,_,rfl,isNo (by decide) ?_⟩
      refine ⟨_,rfl,rfl,_,rfl,isYes ?_⟩
      obtain ⟨i,rfl,e1,hx⟩:=counted_is h1
      obtain ⟨j,rfl,e2,hy⟩:=counted_is h2
      rw [e1] at s1
      rw [e2] at s2
      have fin:∀ k:Int,enc .counted (oMul x y)=.int k→Q (.int k) H:=fun k e=>q _ _ (Same.refl H) (by show IsW H _ (enc .counted (oMul x y)); rw [e]; exact rfl)
      refine ⟨_,rfl,rfl,_,rfl,iteEqI (fun z=>?_) (fun zi=>?_)⟩
      · exact iteT (fin 0 (counted_zero hx z))
      refine ⟨_,rfl,rfl,_,rfl,iteEqI (fun z=>?_) (fun zj=>?_)⟩
      · exact fin 0 ((congrArg (enc .counted) (oMul_comm x y)).trans (counted_zero hy z))
      refine ⟨_,rfl,_,rfl,_,_,rfl,_,_,rfl,rfl,_,rfl,iteD (fun c=>?_) (fun c=>?_)⟩
      · refine ⟨_,rfl,fin (-1) (counted_endless hx hy zi zj ?_)⟩
        rcases hx with ⟨e,_⟩ | ⟨n,e,_⟩
        · exact .inl e
        · rcases hy with ⟨e',_⟩ | ⟨n',e',_⟩
          · exact .inr e'
          · exfalso; split at c <;> omega
      · have z1:i≠-1:=fun z=>c (by split <;> omega)
        have z2:j≠-1:=fun z=>c (by rcases hx with ⟨e,_⟩ | ⟨n,e,_⟩ <;> split <;> omega)
        exact ⟨_,rfl,_,rfl,_,_,rfl,rfl,big_mul s1 s2,fin _ (counted_prod hx hy z1 z2)⟩
    | likeliest =>
      obtain ⟨r1,rfl,e1⟩:=isW_pair h1
      obtain ⟨r2,rfl,e2⟩:=isW_pair h2
      refine t_or_eq rfl (fun z=>absurd z (by decide)) (fun _=>?_)
      refine ⟨_,rfl,rfl,_,rfl,isNo (by decide) ?_⟩
      refine ⟨_,rfl,rfl,_,rfl,isNo (by decide) ?_⟩
      refine t_or_eq rfl (fun _=>?_) (fun z=>absurd (.inl rfl) z)
      refine ⟨_,rfl,r1,_,_,_,rfl,rfl,SqT.of e1,rfl,_,rfl,r2,_,_,_,rfl,rfl,SqT.of e2,rfl,_,_,rfl,rfl,big_mul s1.1 s2.1,?_⟩
      refine ⟨_,rfl,r1,_,_,_,rfl,rfl,SqT.of e1,rfl,_,rfl,r2,_,_,_,rfl,rfl,SqT.of e2,rfl,_,_,rfl,rfl,big_mul s1.2 s2.2,?_⟩
      refine ⟨_,_,rfl,Int.mul_nonneg (Rat.num_nonneg.mpr x.2.1) (Rat.num_nonneg.mpr y.2.1),Int.mul_pos (den_pos _) (den_pos _),fun v H' s' hv=>q v H' s' ?_⟩
      rw [mul_shareW] at hv
      exact hv
    | chances =>
      obtain ⟨r1,rfl,e1⟩:=isW_pair h1
      obtain ⟨r2,rfl,e2⟩:=isW_pair h2
      refine t_or_eq rfl (fun z=>absurd z (by decide)) (fun _=>?_)
      refine ⟨_,rfl,rfl,_,rfl,isNo (by decide) ?_⟩
      refine ⟨_,rfl,rfl,_,rfl,isNo (by decide) ?_⟩
      refine t_or_eq rfl (fun _=>?_) (fun z=>absurd (.inr rfl) z)
      refine ⟨_,rfl,r1,_,_,_,rfl,rfl,SqT.of e1,rfl,_,rfl,r2,_,_,_,rfl,rfl,SqT.of e2,rfl,_,_,rfl,rfl,big_mul s1.1 s2.1,?_⟩
      refine ⟨_,rfl,r1,_,_,_,rfl,rfl,SqT.of e1,rfl,_,rfl,r2,_,_,_,rfl,rfl,SqT.of e2,rfl,_,_,rfl,rfl,big_mul s1.2 s2.2,?_⟩
      refine ⟨_,_,rfl,Int.mul_nonneg (Rat.num_nonneg.mpr x.2) (Rat.num_nonneg.mpr y.2),Int.mul_pos (den_pos _) (den_pos _),fun v H' s' hv=>q v H' s' ?_⟩
      rw [mul_shareW] at hv
      exact hv
    | musts =>
      refine t_or_eq rfl (fun _=>?_) (fun z=>absurd (.inr rfl) z)
      rcases x with _ | i
      · obtain rfl:=isW_non h1
        exact ⟨_,rfl,_,rfl,iteT (iteT (q _ _ (Same.refl H) True.intro))⟩
      · obtain rfl:=isW_int h1
        refine ⟨_,rfl,_,rfl,iteF ?_⟩
        rcases y with _ | j
        · obtain rfl:=isW_non h2
          exact ⟨_,rfl,_,rfl,iteT (q _ _ (Same.refl H) True.intro)⟩
        · obtain rfl:=isW_int h2
          exact ⟨_,rfl,_,rfl,iteF ⟨_,rfl,rfl,_,rfl,isNo (by decide) ⟨_,rfl,_,rfl,_,_,rfl,rfl,q _ _ (Same.refl H) (bitOr_nat i j)⟩⟩⟩
    | rests n =>
      obtain rfl:=isW_int h1
      obtain rfl:=isW_int h2
      obtain rfl:m=n:=hm' n rfl
      have o1:1≤n:=ok.1
      have o2:n≤12:=ok.2
      rw [show kno (Kd.rests n)=6 from rfl]
      refine t_or_eq rfl (fun z=>absurd z (by decide)) (fun _=>?_)
      refine ⟨_,rfl,rfl,_,rfl,isNo (by decide) ?_⟩
      refine ⟨_,rfl,rfl,_,rfl,isNo (by decide) ?_⟩
      refine t_or_eq rfl (fun z=>absurd z (by decide)) (fun _=>?_)
      refine ⟨_,rfl,(n:Int),rfl,by omega,by omega,?_⟩
      refine for_range (n:=(n:Int).toNat) (fun i σ H'=>H'=H∧i≤n∧∃ o1 o2,σ=[some (.int 6),some (.int n),some (.int x.1),some (.int y.1),some (.int (behTo n x.1 y.1 i:Nat)),o1,o2]) ⟨rfl,by omega,none,none,rfl⟩ ?_ ?_
      · rintro i σ H' hi ⟨rfl,_,o1',o2',rfl⟩
        have hi':i < n:=by omega
        rw [Int.zero_add]
        refine ⟨_,rfl,_,rfl,_,_,rfl,rfl,by omega,_,_,rfl,rfl,rfl,_,rfl,?_⟩
        have e:=behTo_succ n x.1 y.1 i
        refine iteEqI (fun z=>?_) (fun z=>?_)
        · rw [shr_nat,bit_one] at z
          have c:x.1.testBit i=true:=by
            cases c:x.1.testBit i with
            | true=>rfl
            | false=>rw [c] at z; exact absurd z (by decide)
          rw [if_pos c] at e
          refine ⟨_,rfl,_,rfl,_,_,rfl,rfl,cpow_nat (pow12 o2 y.2) (by omega),?_⟩
          refine ⟨_,rfl,_,rfl,_,rfl,_,_,rfl,rfl,cpow_one o2,_,_,rfl,rfl,_,_,rfl,rfl,_,_,rfl,rfl,_,rfl,_,rfl,_,_,rfl,rfl,Int.natCast_nonneg n,_,_,rfl,rfl,?_⟩
          refine ⟨rfl,by omega,some (V.int (i:Int)),some (V.int ((y.1 <<< i:Nat):Int)),?_⟩
          dsimp only
          rw [mask_nat,shl_nat,bitAnd_nat,shr_nat,bitOr_nat,bitOr_nat,Nat.or_assoc,e]
          rfl
        · rw [shr_nat,bit_one] at z
          have c:¬ x.1.testBit i=true:=fun c=>by rw [if_pos c] at z; exact z rfl
          rw [if_neg c] at e
          exact ⟨rfl,by omega,_,_,by rw [e]; rfl⟩
      · rintro σ H' ⟨rfl,_,o1',o2',rfl⟩
        exact ⟨_,rfl,q _ _ (Same.refl H') (by rw [Int.toNat_natCast]; rfl)⟩
end
end K14
namespace K14
open PySem L2 Ws
seal PE PT PW PA PC PS PSs PG PGs PI PO
section
variable {P : Program} {w : World} {K : PySem.W.Frag} {mg : Str → Option Value} {base : Heap} {a : Adr}
def spWhole:Sp:=fun vs H Q _=>∃ i:Int,vs=[.int i]∧Q (.bl true) H
theorem sc_law_whole:FnScope ["found"] ["found"] (defScope (top 46)):=⟨rfl,rfl,rfl,by decide +kernel,rfl,by decide +kernel,by decide +kernel⟩
theorem kit_iB {K:PySem.W.Frag}:PySem.W.kitOne K (.type "int") (.type "bool")=some false:=by rfl
theorem d_whole (T:Tx K mg a) (F:DefAt K mg "_law_whole" (top 46)):Dn P w K mg base 1 "_law_whole" ["found"] spWhole:=by
  obtain ⟨f,fd,hm,F⟩:=F.ex
  refine ⟨f,fd,hm,F.kp,F.binds fun _ _ _ _ _ _ us hl=>match us,hl with | [_],_=>rfl,?_⟩
  refine F.okN sc_law_whole (fun vs H Q E h=>?_) (fun cdv A outer s H vs Q E hr h=>?_)
  · obtain ⟨_,rfl,_⟩:=h
    rfl
  · obtain ⟨i,rfl,q⟩:=h
    refine ⟨_,(pss_one (ps_ret (pe_and (pe_callB call_isinst rfl T.b_isinstance bt_isinstance (pa_cons (hs:=st_Name) (pv 0) (pa_cons (hs:=st_Name) (pe_bltn (v:=V.ty "int") rfl T.b_int bt_int rfl) pa_nil))) (pe_one (pe_not (pe_callB call_isinst rfl T.b_isinstance bt_isinstance (pa_cons (hs:=st_Name) (pv 0) (pa_cons (hs:=st_Name) (pe_bltn (v:=V.ty "bool") rfl T.b_bool bt_bool rfl) pa_nil)))))))),?_⟩
    exact ⟨_,rfl,_,_,_,_,_,rfl,rfl,.of (.int _),kit_iI,_,rfl,iteT ⟨_,rfl,_,_,_,_,_,rfl,rfl,.of (.int _),kit_iB,_,rfl,q⟩⟩
end
end K14
namespace K14
open PySem L2 Ws
seal PE PT PW PA PC PS PSs PG PGs PI PO PJ PTs
theorem IsW.st {H H':Hp} (e:STup H H'):∀ {v:V} {w:Wd},IsW H v w→IsW H' v w
  | .non,.non,_=>True.intro
  | .int _,.int _,h=>h
  | .ref _,.pair _ _,h=>e _ _ h
theorem IsRoad.st {H H':Hp} (e:STup H H') {v:V} {r:Road}:IsRoad H v r→IsRoad H' v r:=fun ⟨p,wv,e1,e2,e3⟩=>⟨p,wv,e1,e _ _ e2,e3.st e⟩
theorem IsRoads.st {H H':Hp} (e:STup H H') {vs:List V} {rs:List Road} (h:IsRoads H vs rs):IsRoads H' vs rs:=Paired.mapP h fun _ _ q=>q.st e
theorem NetIs.up {a:Adr} {H:Hp} {p l:Addr} {kd:Kd} {n:Nat} {kp tp:Addr} {vs ys:List V} {rs:List Road} {o:HO} (h:H l=some (.lst ys)) (N:NetIs a H p kd n kp tp vs rs):NetIs a (upd H l o) p kd n kp tp vs rs :=
  ⟨let ⟨dx,q⟩:=N.ins; ⟨dx,by rw [upd_ne (ne_of q h (by intro z; cases z))]; exact q⟩,let ⟨dx,q⟩:=N.kind; ⟨dx,by rw [upd_ne (ne_of q h (by intro z; cases z))]; exact q⟩,stup_lst h _ _ N.tup,N.rds.st (stup_lst h)⟩
section
variable {P : Program} {w : World} {K : PySem.W.Frag} {mg : Str → Option Value} {base : Heap} {a : Adr}
theorem over_shareW {p q:Rat} (h:0 < q):shareW (p.num * q.den) (p.den * q.num)=ofR (p * q⁻¹):=by
  have hn:0 < q.num:=num_pos.mpr h
  rw [shareW_ofR (Int.mul_pos (den_pos p) hn),← Rat.divInt_mul_divInt,Rat.num_divInt_den]
  have:=Rat.inv_divInt q.num q.den
  rw [Rat.num_divInt_den] at this
  rw [this]
theorem shAll_take {p:Int} {rs:List Road} {i:Nat} {r:Road} (e:rs[i]?=some r):shAll (frm p (rs.take (i + 1)))=if r.f=p then shAll (frm p (rs.take i)) + toR r.w else shAll (frm p (rs.take i)):=by
  rw [frm_take e]
  split
  · unfold shAll
    rw [List.map_append,List.sum_append]
    simp [Rat.add_zero]
  · rfl
def spThin:Sp:=fun vs H Q _=>∃ (n:Int) (rl:Addr) (xs:List V) (rs:List Road),vs=[.int n,.ref rl]∧H rl=some (.lst xs)∧IsRoads H xs rs∧xs.length≤64∧(∀ r∈rs,isWorth .chances r.w=true∧Sm 110 r.w) ∧
  ∀ l ys H',Same H H'→H l=none→H' l=some (.lst ys)→IsRoads H' ys (thin rs)→Q (.ref l) H'
theorem sc_law_thinned:FnScope ["many","roads","found","road","whole","other","worth"] ["many","roads"] (defScope (top 54)):=⟨rfl,rfl,rfl,by decide +kernel,rfl,by decide +kernel,by decide +kernel⟩
theorem d_thinned (T:Tx K mg a) (D_law_tog:Dn P w K mg base 34 "_law_tog" ["which","one","other"] spLTog) (D_law_share:Dn P w K mg base 33 "_law_share" ["top","below"] spShare) (F:DefAt K mg "_law_thinned" (top 54)):Dn P w K mg base 35 "_law_thinned" ["many","roads"] spThin:=by
  obtain ⟨f,fd,hm,F⟩:=F.ex
  refine ⟨f,fd,hm,F.kp,F.binds fun _ _ _ _ _ _ us hl=>match us,hl with | [_,_],_=>rfl,?_⟩
  refine F.okN sc_law_thinned (fun vs H Q E h=>?_) (fun cdv A outer s H vs Q E hr h=>?_)
  · obtain ⟨_,_,_,_,rfl,_⟩:=h
    rfl
  · obtain ⟨n,rl,xs,rs,rfl,hx,hR,h64,hw,q⟩:=h
    have hl:=hR.length
    have sh:∀ r∈rs,ofR (toR r.w)=r.w∧0≤toR r.w∧Sm 110 (ofR (toR r.w)):=fun r hr=>by
      have iw:=(hw r hr).1
      have e:ofR (toR r.w)=r.w:=by
        refine ofR_toR ?_
        revert iw
        cases r.w with
        | pair x y=>simp only [isWorth,Bool.and_eq_true]; exact fun h=>h.1
        | _=>intro h; simp [isWorth] at h
      exact ⟨e,toR_nonneg iw,by rw [e]; exact (hw r hr).2⟩
    have nn:∀ (p:Int) (i:Nat),0≤shAll (frm p (rs.take i)):=fun p i=>sum_nonneg _ fun x hx=>by
      obtain ⟨y,hy,rfl⟩:=List.mem_map.mp hx
      obtain ⟨r,hr,rfl⟩:=List.mem_map.mp hy
      exact (sh r (List.mem_of_mem_take (List.mem_filter.mp hr).1)).2.1
    refine ⟨_,(pss_cons (ps_set (i:=2) sc_law_thinned.nd rfl (Or.inl rfl) (pe_lst pa_nil))
      (pss_cons (ps_for PassesOwn.never rfl (pi_list (pv 1)) (pg_name (i:=3) sc_law_thinned.nd rfl (Or.inl rfl)) (pss_cons (ps_set (i:=4) sc_law_thinned.nd rfl (Or.inl rfl) (pe_tup (pa_cons (hs:=st_Constant) pe_int (pa_cons (hs:=st_Constant) pe_int pa_nil))))
      (pss_cons (ps_for PassesOwn.never rfl (pi_list (pv 1)) (pg_name (i:=5) sc_law_thinned.nd rfl (Or.inl rfl)) (pss_one (ps_if (pt_cmpR op_eq (pe_ix ix_tup (pv 5) pe_int (fun _ _=>rfl)) (pe_ix ix_tup (pv 3) pe_int (fun _ _=>rfl)) (nomark _)) (pss_one (ps_set (i:=4) sc_law_thinned.nd rfl (Or.inl rfl) (pe_callD D_law_tog (hr.mono (by decide)) rfl passE0 (pa_cons (hs:=st_Constant) pe_int (pa_cons (hs:=st_Name) (pv 4) (pa_cons (hs:=st_Subscript) (pe_ix ix_tup (pv 5) pe_int (fun _ _=>rfl)) pa_nil)))))) pss_nil)))
      (pss_cons (ps_set (i:=6) sc_law_thinned.nd rfl (Or.inl rfl) (pe_ix ix_tup (pv 3) pe_int (fun _ _=>rfl)))
      (pss_cons (ps_if (pt_cmpR op_gt (pe_ix ix_tup (pv 4) pe_int (fun _ _=>rfl)) (pe_ix ix_tup (pv 4) pe_int (fun _ _=>rfl)) (nomark _)) (pss_one (ps_set (i:=6) sc_law_thinned.nd rfl (Or.inl rfl) (pe_callD D_law_share (hr.mono (by decide)) rfl passE0 (pa_cons (hs:=st_BinOp) (pe_op op_mulX (pe_ix ix_tup (pv 6) pe_int (fun _ _=>rfl)) (pe_ix ix_tup (pv 4) pe_int (fun _ _=>rfl))) (pa_cons (hs:=st_BinOp) (pe_op op_mulX (pe_ix ix_tup (pv 6) pe_int (fun _ _=>rfl)) (pe_ix ix_tup (pv 4) pe_int (fun _ _=>rfl))) pa_nil))))) pss_nil)
      (pss_one (ps_expr (pe_bm PySem.F.plainAttrs_list PySem.F.slot_list_append PySem.F.type_list_append mt_append (pv 2) (pa_cons (hs:=st_Tuple) (pe_tup (pa_cons (hs:=st_Subscript) (pe_ix ix_tup (pv 3) pe_int (fun _ _=>rfl)) (pa_cons (hs:=st_Subscript) (pe_ix ix_tup (pv 3) pe_int (fun _ _=>rfl)) (pa_cons (hs:=st_Name) (pv 6) pa_nil)))) pa_nil)))))))))
      (pss_one (ps_ret (pv 2))))),?_⟩
    refine ⟨(by show 0≤sizeLine; decide),fun fl nf=>?_⟩
    refine ⟨_,rfl,rl,rfl,⟨xs,SqL.of (same_one nf _ _ hx)⟩,for_list (xs:=xs) (fun i σ H'=>∃ ys o1 o2 o3 o4,σ=[some (.int n),some (.ref rl),some (.ref fl),o1,o2,o3,o4]∧Same H H'∧H' fl=some (.lst ys)∧ys.length≤i∧IsRoads H' ys ((thin rs).take i))
      ⟨[],_,_,_,_,rfl,same_one nf,upd_same,Nat.zero_le _,by simp; exact .nil⟩ (fun i σ H' _ ⟨_,_,_,_,_,_,s',_⟩=>SqL.of (s' _ _ hx)) ?_ ?_⟩
    · rintro i x σ H' ex ⟨ys,o1,o2,o3,o4,rfl,s',hf,hyl,hy⟩
      obtain ⟨r,er,pr,wv,rfl,e2,e3⟩:=pget hR ex
      have hi:i < xs.length:=(List.getElem?_eq_some_iff.mp ex).1
      have hrm:=List.mem_of_getElem? er
      refine ⟨(by show 2≤sizeLine; decide),fun p0 n0=>?_⟩
      refine ⟨_,rfl,rl,rfl,⟨xs,SqL.of (same_one n0 _ _ (s' _ _ hx))⟩,for_list (xs:=xs) (fun j σ H2=>∃ v o3,σ=[some (.int n),some (.ref rl),some (.ref fl),some (.ref pr),some v,o3,o4]∧Same H' H2∧IsW H2 v (ofR (shAll (frm r.f (rs.take j))))∧Sm (111 * j + 30) (ofR (shAll (frm r.f (rs.take j)))))
        ⟨_,_,rfl,same_one n0,upd_same,(show Sm 30 (ofR 0) by decide)⟩ (fun j σ H2 _ ⟨_,_,_,s2,_⟩=>SqL.of (s2 _ _ (s' _ _ hx))) ?_ ?_⟩
      · rintro j y σ H2 ey ⟨v,o3,rfl,s2,hv,sv⟩
        obtain ⟨r2,er2,pr2,wv2,rfl,e4,e5⟩:=pget hR ey
        have hj:j < xs.length:=(List.getElem?_eq_some_iff.mp ey).1
        have s02:=s'.trans s2
        refine ⟨_,rfl,pr2,_,_,_,rfl,rfl,SqT.of (s02 _ _ e4),rfl,_,rfl,pr,_,_,_,rfl,rfl,SqT.of (s02 _ _ e2),rfl,rfl,_,rfl,iteEqI (fun c=>?_) (fun c=>?_)⟩
        · obtain ⟨ew,ww,sw⟩:=sh r2 (List.mem_of_getElem? er2)
          refine ⟨_,rfl,_,rfl,pr2,_,_,_,rfl,rfl,SqT.of (s02 _ _ e4),rfl,.chances,trivial,v,wv2,⟨_,nn r.f j⟩,⟨toR r2.w,ww⟩,rfl,hv,?_,sv.mono (by show _≤16000000; omega),sw.mono (by decide),fun v3 H3 s3 hv3=>⟨v3,_,rfl,s2.trans s3,?_,?_⟩⟩
          · show IsW H2 wv2 (ofR (toR r2.w))
            rw [ew]; exact e5.same s02
          · rw [shAll_take er2,if_pos c]; exact hv3
          · rw [shAll_take er2,if_pos c]; exact (sm_addR sv sw).mono (by omega)
        · refine ⟨v,_,rfl,s2,?_,?_⟩
          · rw [shAll_take er2,if_neg c]; exact hv
          · rw [shAll_take er2,if_neg c]; exact sv.mono (by omega)
      · rintro σ H2 ⟨v,o3,rfl,s2,hv,sv⟩
        rw [hl,List.take_length] at hv sv
        obtain ⟨rv,rfl,ev⟩:=isW_pair hv
        have s02:=s'.trans s2
        obtain ⟨ew,ww,sw⟩:=sh r hrm
        refine ⟨_,rfl,pr,_,_,_,rfl,rfl,SqT.of (s02 _ _ e2),rfl,?_⟩
        have fin:∀ (v4:V) (o3:Option V) (H4:Hp),Same H2 H4→IsW H4 v4 (thinW rs r)→∀ t,H4 t=none→(upd H4 t (.tup [.int r.f,.int r.t,v4])) fl=some (.lst ys)∧(∃ ys' o1 o2 o3' o4,([some (.int n),some (.ref rl),some (.ref fl),some (.ref pr),some (.ref rv),o3,some v4]:St)=[some (.int n),some (.ref rl),some (.ref fl),o1,o2,o3',o4] ∧
            Same H (upd (upd H4 t (.tup [.int r.f,.int r.t,v4])) fl (.lst (ys ++ [.ref t])))∧(upd (upd H4 t (.tup [.int r.f,.int r.t,v4])) fl (.lst (ys ++ [.ref t]))) fl=some (.lst ys')∧ys'.length≤i + 1∧IsRoads (upd (upd H4 t (.tup [.int r.f,.int r.t,v4])) fl (.lst (ys ++ [.ref t]))) ys' ((thin rs).take (i + 1))):=by
          intro v4 o3 H4 s4 hv4 t nt
          have s5:Same H4 (upd H4 t (.tup [.int r.f,.int r.t,v4])):=same_one nt
          have hf5:=s5 _ _ (s4 _ _ (s2 _ _ hf))
          refine ⟨hf5,ys ++ [.ref t],_,_,_,_,rfl,?_,upd_same,by rw [List.length_append,List.length_singleton]; omega,?_⟩
          · exact same_upd ((s02.trans s4).trans s5) nf
          · have et:(thin rs)[i]?=some { r with w:=thinW rs r }:=by unfold thin; rw [List.getElem?_map,er]; rfl
            rw [List.take_add_one,et]
            have st:=(same_st ((s2.trans s4).trans s5)).trans (stup_lst (o:=.lst (ys ++ [.ref t])) hf5)
            refine Paired.snoc (hy.st st) ⟨t,v4,rfl,stup_lst hf5 _ _ upd_same,hv4.st ((same_st s5).trans (stup_lst hf5))⟩
        have e3':IsW H2 wv (ofR (toR r.w)):=by rw [ew]; exact e3.same s02
        obtain ⟨rw_,rfl,erw⟩:=isW_pair e3'
        have lz:ys.length < sizeLine:=lines (by omega)
        refine ⟨_,rfl,rv,_,_,_,rfl,rfl,SqT.of ev,rfl,_,rfl,rv,_,_,_,rfl,rfl,SqT.of ev,rfl,_,_,rfl,rfl,_,rfl,iteD (fun c=>?_) (fun c=>?_)⟩
        · have c1:1 < shAll (frm r.f rs):=Rat.not_le.mp fun z=>by have:=le_one.mpr z; omega
          have c0:0 < shAll (frm r.f rs):=by grind
          have sw':Sm Big (ofR (toR r.w)):=sw.mono (by decide)
          have sv':Sm Big (ofR (shAll (frm r.f rs))):=sv.mono (by show _≤16000000; omega)
          refine ⟨_,rfl,rw_,_,_,_,rfl,rfl,SqT.of erw,rfl,_,rfl,rv,_,_,_,rfl,rfl,SqT.of ev,rfl,_,_,rfl,rfl,big_mul sw'.1 sv'.2,?_⟩
          refine ⟨_,rfl,rw_,_,_,_,rfl,rfl,SqT.of erw,rfl,_,rfl,rv,_,_,_,rfl,rfl,SqT.of ev,rfl,_,_,rfl,rfl,big_mul sw'.2 sv'.1,?_⟩
          refine ⟨_,_,rfl,Int.mul_nonneg (Rat.num_nonneg.mpr ww) (Int.le_of_lt (den_pos _)),Int.mul_pos (den_pos _) (num_pos.mpr c0),fun v4 H4 s4 hv4=>?_⟩
          rw [over_shareW c0] at hv4
          have hv4:IsW H4 v4 (thinW rs r):=by rw [thinW,if_pos c1]; exact hv4
          have f4:=s4 _ _ (s2 _ _ hf)
          have s04:=s02.trans s4
          refine ⟨_,rfl,.inl ⟨rfl,_,SqL.of f4⟩,_,rfl,pr,_,_,_,rfl,rfl,SqT.of (s04 _ _ e2),rfl,_,rfl,pr,_,_,_,rfl,rfl,SqT.of (s04 _ _ e2),rfl,_,rfl,(by show 3≤sizeLine; decide),fun t nt=>?_⟩
          obtain ⟨g1,g2⟩:=fin v4 o3 H4 s4 hv4 t nt
          exact ⟨fl,_,_,rfl,rfl,g1,lz,g2⟩
        · have c1:¬ 1 < shAll (frm r.f rs):=fun z=>by
            have:=le_one (q:=shAll (frm r.f rs))
            have:¬ (shAll (frm r.f rs)).num≤(shAll (frm r.f rs)).den:=fun y=>by have:=this.mp y; grind
            omega
          have hv4:IsW H2 (.ref rw_) (thinW rs r):=by rw [thinW,if_neg c1,← ew]; exact e3'
          have f4:=s2 _ _ hf
          refine ⟨_,rfl,.inl ⟨rfl,_,SqL.of f4⟩,_,rfl,pr,_,_,_,rfl,rfl,SqT.of (s02 _ _ e2),rfl,_,rfl,pr,_,_,_,rfl,rfl,SqT.of (s02 _ _ e2),rfl,_,rfl,(by show 3≤sizeLine; decide),fun t nt=>?_⟩
          obtain ⟨g1,g2⟩:=fin (.ref rw_) o3 H2 (Same.refl H2) hv4 t nt
          exact ⟨fl,_,_,rfl,rfl,g1,lz,g2⟩
    · rintro σ H' ⟨ys,o1,o2,o3,o4,rfl,s',hf,hyl,hy⟩
      have hlt:xs.length=(thin rs).length:=by unfold thin; rw [List.length_map]; exact hl
      rw [hlt,List.take_length] at hy
      exact ⟨_,rfl,q fl ys H' s' nf hf hy⟩
def spLNet (K:PySem.W.Frag):Sp:=fun vs H Q _=>∃ (sa:Addr) (ns:List Int) (at_ which m:Int) (most extra:Nat),vs=[.ref sa,.int at_,.int which,.int m,.int (most:Int),.int (extra:Int)]∧SqL K H sa (ns.map V.int)∧0≤at_∧0≤which∧which < 7∧1≤m∧m≤12∧1≤most∧most≤8∧extra≤64 ∧
  ∀ p l xs n rs H',Same H H'→H l=none→H' p=some (.tup [.int (n:Nat),.ref l])→H' l=some (.lst xs)→IsRoads H' xs rs→Good (kdOf which m) most extra n rs→Q (.ref p) H'
theorem log9 {i:Int} (h0:0≤i) (h:i < 1000000):i.natAbs.log2 < 9000:=by
  have z:(1000000:Nat) < 10 ^ 62:=by decide
  exact Nat.lt_trans (log2_small (by omega)) (by decide)
theorem bits8 {k:Int} (k0:0≤k) (k8:k≤8):Builtin.Int.intBits k≤Big:=by
  have z:(2:Nat) ^ 4=16:=by decide
  exact bits_le (Nat.lt_of_lt_of_le (show k.natAbs < 2 ^ 4 by omega) (Nat.pow_le_pow_right (by decide) (by decide)))
theorem modlt {i:Int} {m:Nat} (h:0 < m):∃ k:Nat,i % (m:Int)=k∧k < m:=⟨(i % m).toNat,by have:=Int.emod_nonneg i (show (m:Int)≠0 by omega); omega,by have:=Int.emod_lt_of_pos i (show (0:Int) < m by omega); have:=Int.emod_nonneg i (show (m:Int)≠0 by omega); omega⟩
theorem sc_law_net:FnScope ["script","at","which","m","most","extra","many","roads","k","cell","worth"] ["script","at","which","m","most","extra"] (defScope (top 55)):=⟨rfl,rfl,rfl,by decide +kernel,rfl,by decide +kernel,by decide +kernel⟩
theorem d_net (T:Tx K mg a) (D_law_cell_at:Dn P w K mg base 1 "_law_cell_at" ["script","k"] (spCell K)) (D_law_worth:Dn P w K mg base 34 "_law_worth" ["which","m","cell"] spWorth) (D_law_thinned:Dn P w K mg base 35 "_law_thinned" ["many","roads"] spThin)
    (F:DefAt K mg "_law_net" (top 55)):Dn P w K mg base 36 "_law_net" ["script","at","which","m","most","extra"] (spLNet K):=by
  obtain ⟨f,fd,hm,F⟩:=F.ex
  refine ⟨f,fd,hm,F.kp,F.binds fun _ _ _ _ _ _ us hl=>match us,hl with | [_,_,_,_,_,_],_=>rfl,?_⟩
  refine F.okN sc_law_net (fun vs H Q E h=>?_) (fun cdv A outer s H vs Q E hr h=>?_)
  · obtain ⟨_,_,_,_,_,_,_,rfl,_⟩:=h
    rfl
  · obtain ⟨sa,ns,at_,which,m,most,extra,rfl,hS,a0,w0,w7,m1,m12,mo1,mo8,ex64,q⟩:=h
    refine ⟨_,(pss_cons (ps_set (i:=6) sc_law_net.nd rfl (Or.inl rfl) (pe_op op_add pe_int (pe_op op_mod (pe_callD D_law_cell_at (hr.mono (by decide)) rfl passE0 (pa_cons (hs:=st_Name) (pv 0) (pa_cons (hs:=st_Name) (pv 1) pa_nil))) (pv 4))))
      (pss_cons (ps_set (i:=7) sc_law_net.nd rfl (Or.inl rfl) (pe_lst pa_nil))
      (pss_cons (ps_for PassesOwn.never rfl (pi_range1 rfl T.b_range (pa_cons (hs:=st_BinOp) (pe_op op_mod (pe_op op_fdivX (pe_callD D_law_cell_at (hr.mono (by decide)) rfl passE0 (pa_cons (hs:=st_Name) (pv 0) (pa_cons (hs:=st_Name) (pv 1) pa_nil))) (pv 4)) (pe_op op_add (pv 5) pe_int)) pa_nil)) (pg_name (i:=8) sc_law_net.nd rfl (Or.inl rfl)) (pss_cons (ps_set (i:=9) sc_law_net.nd rfl (Or.inl rfl) (pe_callD D_law_cell_at (hr.mono (by decide)) rfl passE0 (pa_cons (hs:=st_Name) (pv 0) (pa_cons (hs:=st_BinOp) (pe_op op_add (pe_op op_add (pv 1) pe_int) (pv 8)) pa_nil))))
      (pss_cons (ps_set (i:=10) sc_law_net.nd rfl (Or.inl rfl) (pe_callD D_law_worth (hr.mono (by decide)) rfl passE0 (pa_cons (hs:=st_Name) (pv 2) (pa_cons (hs:=st_Name) (pv 3) (pa_cons (hs:=st_BinOp) (pe_op op_fdivX (pv 9) (pe_op op_mulX (pv 6) (pv 6))) pa_nil)))))
      (pss_one (ps_expr (pe_bm PySem.F.plainAttrs_list PySem.F.slot_list_append PySem.F.type_list_append mt_append (pv 7) (pa_cons (hs:=st_Tuple) (pe_tup (pa_cons (hs:=st_BinOp) (pe_op op_mod (pv 9) (pv 6)) (pa_cons (hs:=st_BinOp) (pe_op op_mod (pe_op op_fdivX (pv 9) (pv 6)) (pv 6)) (pa_cons (hs:=st_Name) (pv 10) pa_nil)))) pa_nil)))))))
      (pss_cons (ps_if (pt_cmpR op_eq (pv 2) pe_int (nomark _)) (pss_one (ps_set (i:=7) sc_law_net.nd rfl (Or.inl rfl) (pe_callD D_law_thinned (hr.mono (by decide)) rfl passE0 (pa_cons (hs:=st_Name) (pv 6) (pa_cons (hs:=st_Name) (pv 7) pa_nil))))) pss_nil)
      (pss_one (ps_ret (pe_tup (pa_cons (hs:=st_Name) (pv 6) (pa_cons (hs:=st_Name) (pv 7) pa_nil))))))))),?_⟩
    obtain ⟨n0,en,ln⟩:=modlt (i:=ns.getD at_.toNat 0) (m:=most) (by omega)
    refine ⟨_,rfl,_,rfl,sa,ns,at_,rfl,hS,a0,_,rfl,_,_,rfl,rfl,(by show (0:Int) < most; omega),_,_,rfl,rfl,?_⟩
    dsimp only
    rw [en]
    obtain ⟨n,rfl⟩:∃ n:Nat,n=1 + n0:=⟨_,rfl⟩
    rw [show (1:Int) + (n0:Nat)=((1 + n0:Nat):Int) by omega]
    refine ⟨(by show 0≤sizeLine; decide),fun rl nl=>?_⟩
    obtain ⟨c,ec,lc⟩:=modlt (i:=ns.getD at_.toNat 0 / most) (m:=extra + 1) (by omega)
    have s1:Same H (upd H rl (.lst [])):=same_one nl
    refine ⟨_,rfl,_,rfl,sa,ns,at_,rfl,same_lst s1 hS,a0,_,rfl,_,_,rfl,rfl,⟨by show (0:Int) < most; omega,log9 (by omega) (by omega)⟩,?_⟩
    refine ⟨_,rfl,_,_,rfl,rfl,_,_,rfl,rfl,(by show (0:Int) < (extra:Int) + 1; omega),(c:Int),?_,by omega,by omega,?_⟩
    · show [V.int _]=[V.int _]
      rw [← ec]; rfl
    refine for_range (n:=(c:Int).toNat) (fun i σ H'=>∃ xs rs o1 o2 o3,σ=[some (.ref sa),some (.int at_),some (.int which),some (.int m),some (.int (most:Int)),some (.int (extra:Int)),some (.int ((1 + n0:Nat):Int)),some (.ref rl),o1,o2,o3]∧Same H H'∧H' rl=some (.lst xs)∧IsRoads H' xs rs∧xs.length=i ∧
      rs.all (endOk ((1 + n0:Nat):Int))=true∧∀ r∈rs,∃ c,r.w=worthW which m c) ⟨[],[],_,_,_,rfl,s1,upd_same,.nil,rfl,rfl,fun r hr=>nomatch hr⟩ ?_ ?_
    · rintro i σ H' hi ⟨xs,rs,o1,o2,o3,rfl,s',hf,hR,hln,he,hw⟩
      have hi:i < c:=by omega
      refine ⟨_,rfl,_,rfl,_,_,rfl,rfl,_,rfl,_,_,rfl,rfl,sa,ns,_,rfl,same_lst s' hS,by show 0≤at_ + 1 + (0 + (i:Int)); omega,?_⟩
      generalize ns.getD (at_ + 1 + (0 + (i:Int))).toNat 0=cell
      have nn:(1:Int)≤(1 + n0:Nat):=by omega
      have n9:((1 + n0:Nat):Int)≤8:=by omega
      have nm1:1≤((1 + n0:Nat):Int) * (1 + n0:Nat):=by have:=Int.mul_le_mul nn nn (by omega) (by omega); omega
      have nm2:((1 + n0:Nat):Int) * (1 + n0:Nat)≤64:=by have:=Int.mul_le_mul n9 n9 (by omega) (by omega); omega
      refine ⟨_,rfl,_,rfl,_,rfl,_,rfl,_,rfl,_,_,rfl,rfl,big_mul (bits8 (by omega) n9) (bits8 (by omega) n9),_,_,rfl,rfl,⟨by omega,log9 (by omega) (by omega)⟩,which,m,_,rfl,w0,w7,m1,m12,fun v H2 s2 hv=>?_⟩
      have f2:=s2 _ _ hf
      refine ⟨_,rfl,.inl ⟨rfl,_,SqL.of f2⟩,_,rfl,_,rfl,_,_,rfl,rfl,(by show (0:Int) < (1 + n0:Nat); omega),_,rfl,_,rfl,_,_,rfl,rfl,⟨by show (0:Int) < (1 + n0:Nat); omega,log9 (by omega) (by omega)⟩,_,rfl,_,_,rfl,rfl,(by show (0:Int) < (1 + n0:Nat); omega),_,rfl,(by show 3≤sizeLine; decide),fun t nt=>?_⟩
      have f3:=same_one (o:=.tup [.int (cell % ((1 + n0:Nat):Int)),.int (cell / ((1 + n0:Nat):Int) % ((1 + n0:Nat):Int)),v]) nt _ _ f2
      have s3:Same H2 (upd H2 t (.tup [.int (cell % ((1 + n0:Nat):Int)),.int (cell / ((1 + n0:Nat):Int) % ((1 + n0:Nat):Int)),v])):=same_one nt
      refine ⟨rl,_,_,rfl,rfl,f3,lines (by omega),xs ++ [.ref t],rs ++ [⟨cell % ((1 + n0:Nat):Int),cell / ((1 + n0:Nat):Int) % ((1 + n0:Nat):Int),worthW which m (cell / (((1 + n0:Nat):Int) * ((1 + n0:Nat):Int)))⟩],_,_,_,rfl,same_upd ((s'.trans s2).trans s3) nl,upd_same,?_,?_,?_,?_⟩
      · have st:=(same_st (s2.trans s3)).trans (stup_lst (o:=.lst (xs ++ [.ref t])) f3)
        exact Paired.snoc (hR.st st) ⟨t,v,rfl,stup_lst f3 _ _ upd_same,hv.st ((same_st s3).trans (stup_lst f3))⟩
      · rw [List.length_append,List.length_singleton,hln]
      · rw [List.all_append,he]
        have a1:=Int.emod_nonneg cell (show ((1 + n0:Nat):Int)≠0 by omega)
        have a2:=Int.emod_lt_of_pos cell (show (0:Int) < (1 + n0:Nat) by omega)
        have a3:=Int.emod_nonneg (cell / ((1 + n0:Nat):Int)) (show ((1 + n0:Nat):Int)≠0 by omega)
        have a4:=Int.emod_lt_of_pos (cell / ((1 + n0:Nat):Int)) (show (0:Int) < (1 + n0:Nat) by omega)
        simp only [List.all_cons,List.all_nil,Bool.and_true,Bool.true_and,endOk,Bool.and_eq_true,decide_eq_true_eq]
        exact ⟨⟨a1,a2⟩,a3,a4⟩
      · intro r hr
        rcases List.mem_append.mp hr with hr | hr
        · exact hw r hr
        · rw [List.mem_singleton.mp hr]; exact ⟨_,rfl⟩
    · rintro σ H' ⟨xs,rs,o1,o2,o3,rfl,s',hf,hR,hln,he,hw⟩
      have hl:=hR.length
      have G:=drawn_good (most:=most) (extra:=extra) (n:=1 + n0) w0 w7 m1 m12 (by omega) (by omega) (by omega) ex64 he hw
      refine ⟨_,rfl,rfl,_,rfl,iteEqI (fun e4=>?_) (fun e4=>?_)⟩
      · subst e4
        rw [if_pos rfl] at G
        refine ⟨_,rfl,_,rfl,_,rl,xs,rs,rfl,hf,hR,by omega,fun r hr=>?_,fun l ys H2 s2 nl2 hl2 hR2=>?_⟩
        · obtain ⟨c,e⟩:=hw r hr
          rw [e]
          exact ⟨isWorth_worth (which:=4) (by decide) (by decide) m1,sm_worthW m1 m12⟩
        · refine ⟨_,rfl,_,rfl,(by show 2≤sizeLine; decide),fun p np=>?_⟩
          have s3:Same H2 (upd H2 p (.tup [.int ((1 + n0:Nat):Int),.ref l])):=same_one np
          exact q p l ys (1 + n0) (thin rs) _ ((s'.trans s2).trans s3) (same_none s' nl2) upd_same (s3 _ _ hl2) (hR2.same s3) G
      · rw [if_neg e4] at G
        refine ⟨_,rfl,_,rfl,(by show 2≤sizeLine; decide),fun p np=>?_⟩
        have s3:Same H' (upd H' p (.tup [.int ((1 + n0:Nat):Int),.ref rl])):=same_one np
        exact q p rl xs (1 + n0) rs _ (s'.trans s3) nl upd_same (s3 _ _ hf) (hR.same s3) G
end
end K14
namespace K14
open PySem L2 Ws
seal PE PT PW PA PC PS PSs PG PGs PI PO PJ PTs
section
variable {P : Program} {w : World} {K : PySem.W.Frag} {mg : Str → Option Value} {base : Heap} {a : Adr}
def spPlace (a:Adr):Sp:=fun vs H Q E=>∃ (np:Addr) (p:Int) (kd:Kd) (n:Nat) (kp tp:Addr) (xs:List V) (rs:List Road),vs=[.ref np,.int p]∧NetIs a H np kd n kp tp xs rs∧p.natAbs < 10 ^ 62∧(0≤p∧p < n→Q .non H)∧(¬ (0≤p∧p < n)→E (.ref a.cNoPlace) none H)
theorem sc_check_place:FnScope ["net","place"] ["net","place"] (defScope (top 15)):=⟨rfl,rfl,rfl,by decide +kernel,rfl,by decide +kernel,by decide +kernel⟩
theorem d_check_place (T:Tx K mg a) (V_places:Mth P w K mg base 1 (fun _:Unit=>a.cNet) "places" ["self"] (fun _=>spNPlaces a)) (F:DefAt K mg "check_place" (top 15)):Dn P w K mg base 2 "check_place" ["net","place"] (spPlace a):=by
  obtain ⟨f,fd,hm,F⟩:=F.ex
  refine ⟨f,fd,hm,F.kp,F.binds fun _ _ _ _ _ _ us hl=>match us,hl with | [_,_],_=>rfl,?_⟩
  refine F.okX sc_check_place (fun vs H Q E h=>?_) (fun cdv A outer s H vs Q E hr h=>?_)
  · obtain ⟨_,_,_,_,_,_,_,_,rfl,_⟩:=h
    rfl
  · obtain ⟨np,p,kd,n,kp,tp,xs,rs,rfl,N,hp,q,e⟩:=h
    refine ⟨_,(pss_one (ps_if (PW.pt (pw_or (pt_cmpR op_lt (pv 1) pe_int (nomark _)) (pw_or1 (pt_cmpR op_ge (pv 1) (pe_methV0 (pv 0) V_places (hr.mono (by decide)) pass_cx) (nomark _))))) (pss_one (ps_raise T.x_NoPlace rfl rfl rais_cx (pa_cons (hs:=st_JoinedStr) (pe_fstrN (pj_int (pv 1) (pj_str pj_nil))) pa_nil))) pss_nil)),?_⟩
    have hs:(Str.ofString " is no place of the net").length≤1000:=by decide +kernel
    obtain ⟨dx,hx⟩:=N.ins
    refine ⟨_,rfl,_,_,rfl,rfl,_,rfl,iteD (fun c=>?_) (fun c=>?_)⟩
    · exact ⟨_,rfl,_,rfl,log2_small hp,hs,fun z=>⟨by show 1≤sizeLine; decide,e (by omega)⟩⟩
    · refine ⟨_,rfl,_,rfl,(),np,dx,_,rfl,hx,rfl,np,kp,tp,kd,n,xs,rs,rfl,N,_,_,rfl,rfl,_,rfl,iteD (fun c2=>?_) (fun c2=>?_)⟩
      · exact ⟨_,rfl,_,rfl,log2_small hp,hs,fun z=>⟨by show 1≤sizeLine; decide,e (by omega)⟩⟩
      · exact q (by omega)
end
end K14
namespace K14
open PySem L2 Ws
seal PE PT PW PA PC PS PSs PG PGs PI PO PJ PTs
def IsVec (H:Hp) (kd:Kd) (B n:Nat) (ys:List V) (f:Nat→Car kd):Prop:=ys.length=n∧∀ i,i < n→∃ v,ys[i]?=some v∧IsW H v (enc kd (f i))∧Sm B (enc kd (f i))
theorem IsVec.st {H H':Hp} {kd:Kd} {B n:Nat} {ys:List V} {f:Nat→Car kd} (e:STup H H') (h:IsVec H kd B n ys f):IsVec H' kd B n ys f:=⟨h.1,fun i hi=>let ⟨v,a,b,c⟩:=h.2 i hi; ⟨v,a,b.st e,c⟩⟩
theorem IsVec.eq {H:Hp} {kd:Kd} {B n:Nat} {ys:List V} {f g:Nat→Car kd} (h:IsVec H kd B n ys f) (e:∀ i,i < n→f i=g i):IsVec H kd B n ys g:=⟨h.1,fun i hi=>by rw [← e i hi]; exact h.2 i hi⟩
theorem IsVec.set {H:Hp} {kd:Kd} {B n t:Nat} {ys:List V} {f:Nat→Car kd} {v:V} {x:Car kd} (h:IsVec H kd B n ys f) (hv:IsW H v (enc kd x)) (sv:Sm B (enc kd x)):IsVec H kd B n (ys.set t v) (fun i=>if i=t then x else f i):=by
  refine ⟨by rw [List.length_set]; exact h.1,fun i hi=>?_⟩
  by_cases c:i=t
  · subst c
    exact ⟨v,by rw [List.getElem?_set_self (by rw [h.1]; exact hi)],by show IsW H v (enc kd (if i=i then x else f i)); rw [if_pos rfl]; exact hv,by show Sm B (enc kd (if i=i then x else f i)); rw [if_pos rfl]; exact sv⟩
  · obtain ⟨u,a,b,d⟩:=h.2 i hi
    exact ⟨u,by rw [List.getElem?_set_ne (Ne.symm c)]; exact a,by show IsW H u (enc kd (if i=t then x else f i)); rw [if_neg c]; exact b,by show Sm B (enc kd (if i=t then x else f i)); rw [if_neg c]; exact d⟩
theorem ixN_nat {n j:Nat} (h:j < n):ixN n (j:Int)=some j:=by
  unfold ixN
  rw [if_pos (by omega),if_pos (by omega)]; simp
section
variable {P : Program} {w : World} {K : PySem.W.Frag} {mg : Str → Option Value} {base : Heap} {a : Adr}
theorem stepV_take {S:Type} {M:KSR S} {es:List (Edge S)} {j:Nat} {e:Edge S} (h:es[j]?=some e) (f:Nat→S) (t:Nat):stepV M (es.take (j + 1)) f t=if t=e.t then M.add (stepV M (es.take j) f t) (M.mul (f e.f) e.c) else stepV M (es.take j) f t:=by
  unfold stepV
  rw [List.take_add_one,h,Option.toList_some,List.map_append,List.map_singleton,M.sum_snoc]
  unfold KSR.when
  by_cases c:t=e.t
  · rw [if_pos c.symm,if_pos c]
  · rw [if_neg (Ne.symm c),if_neg c,M.add_zero]
end
end K14
namespace K14
open PySem L2 Ws
theorem mIs {kd:Kd} {which m:Int} (h:kd=kdOf which m) (m1:1≤m):MIs kd m:=fun n e=>by
  rw [h] at e
  unfold kdOf at e
  repeat' split at e
  all_goals first | cases e | skip
  omega
end K14
namespace K14
open PySem L2 Ws
seal PE PT PW PA PC PS PSs PG PGs PI PO PJ PTs
section
variable {P : Program} {w : World} {K : PySem.W.Frag} {mg : Str → Option Value} {base : Heap} {a : Adr}
def spLSteps:Sp:=fun vs H Q _=>∃ (kd:Kd) (ok:KdOk kd) (m:Int) (rl:Addr) (n p k:Nat) (xs:List V) (es:List (Edge (Car kd))),vs=[.int (kno kd),.int m,.int (n:Int),.ref rl,.int (p:Int),.int (k:Int)]∧MIs kd m∧H rl=some (.lst xs)∧IsRoads H xs (es.map (Edge.road kd))∧(∀ e∈es,e.f < n∧e.t < n∧Sm 200 (enc kd e.c))∧n≤8∧p < n∧k≤60∧Fits kd ok es p k 50000 ∧
  ∀ l ys H',Same H H'→H l=none→H' l=some (.lst ys)→IsVec H' kd 50000 n ys (stepsV (ks kd ok) es p k)→Q (.ref l) H'
theorem sc_law_steps:FnScope ["which","m","many","roads","place","count","row","step","fresh","road"] ["which","m","many","roads","place","count"] (defScope (top 56)):=⟨rfl,rfl,rfl,by decide +kernel,rfl,by decide +kernel,by decide +kernel⟩
theorem d_law_steps (T:Tx K mg a) (D_law_none:Dn P w K mg base 1 "_law_none" ["which"] spNone) (D_law_rest:Dn P w K mg base 1 "_law_rest" ["which"] spRest) (D_law_tog:Dn P w K mg base 34 "_law_tog" ["which","one","other"] spLTog) (D_law_beh:Dn P w K mg base 34 "_law_beh" ["which","m","one","other"] spLBeh)
    (F:DefAt K mg "_law_steps" (top 56)):Dn P w K mg base 35 "_law_steps" ["which","m","many","roads","place","count"] spLSteps:=by
  obtain ⟨f,fd,hm,F⟩:=F.ex
  refine ⟨f,fd,hm,F.kp,F.binds fun _ _ _ _ _ _ us hl=>match us,hl with | [_,_,_,_,_,_],_=>rfl,?_⟩
  refine F.okN sc_law_steps (fun vs H Q E h=>?_) (fun cdv A outer s H vs Q E hr h=>?_)
  · obtain ⟨_,_,_,_,_,_,_,_,_,rfl,_⟩:=h
    rfl
  · obtain ⟨kd,ok,m,rl,n,p,k,xs,es,rfl,hmi,hx,hR,hE,n8,hp,hk60,Ft,q⟩:=h
    refine ⟨_,(pss_cons (ps_setC (i:=6) sc_law_steps.nd rfl rfl (N:=["which","m","many","roads","place","count","row","step","fresh","road"]) (osc:=defScope (top 56)) (k:=1) (N':=["k","which"]) (fr:=[0]) ⟨rfl,by decide +kernel,by decide +kernel,by decide +kernel,rfl,by decide +kernel,by decide +kernel⟩ rfl rfl rfl (pi_range1 rfl T.b_range (pa_cons (hs:=st_Name) (pv 2) pa_nil)) (fun ca=>⟨(pg_name (i:=0) (show List.Nodup (["k","which"]:List Str) from by decide +kernel) rfl (Or.inl rfl)),pts_nil,(pe_callD D_law_none (hr.mono (by decide)) rfl passE0 (pa_cons (hs:=st_Name) (pv 1) pa_nil))⟩))
      (pss_cons (ps_asg (pe_callD D_law_rest (hr.mono (by decide)) rfl passE0 (pa_cons (hs:=st_Name) (pv 0) pa_nil)) (pg_sub (pv 6) (pv 4) set_list))
      (pss_cons (ps_for PassesOwn.never rfl (pi_range1 rfl T.b_range (pa_cons (hs:=st_Name) (pv 5) pa_nil)) (pg_name (i:=7) sc_law_steps.nd rfl (Or.inl rfl)) (pss_cons (ps_setC (i:=8) sc_law_steps.nd rfl rfl (N:=["which","m","many","roads","place","count","row","step","fresh","road"]) (osc:=defScope (top 56)) (k:=1) (N':=["k","which"]) (fr:=[0]) ⟨rfl,by decide +kernel,by decide +kernel,by decide +kernel,rfl,by decide +kernel,by decide +kernel⟩ rfl rfl rfl (pi_range1 rfl T.b_range (pa_cons (hs:=st_Name) (pv 2) pa_nil)) (fun ca=>⟨(pg_name (i:=0) (show List.Nodup (["k","which"]:List Str) from by decide +kernel) rfl (Or.inl rfl)),pts_nil,(pe_callD D_law_none (hr.mono (by decide)) rfl passE0 (pa_cons (hs:=st_Name) (pv 1) pa_nil))⟩))
      (pss_cons (ps_for PassesOwn.never rfl (pi_list (pv 3)) (pg_name (i:=9) sc_law_steps.nd rfl (Or.inl rfl)) (pss_one (ps_asg (pe_callD D_law_tog (hr.mono (by decide)) rfl passE0 (pa_cons (hs:=st_Name) (pv 0) (pa_cons (hs:=st_Subscript) (pe_ix ix_list (pv 8) (pe_ix ix_tup (pv 9) pe_int (fun _ _=>rfl)) (fun _ _=>rfl)) (pa_cons (hs:=st_Call) (pe_callD D_law_beh (hr.mono (by decide)) rfl passE0 (pa_cons (hs:=st_Name) (pv 0) (pa_cons (hs:=st_Name) (pv 1) (pa_cons (hs:=st_Subscript) (pe_ix ix_list (pv 6) (pe_ix ix_tup (pv 9) pe_int (fun _ _=>rfl)) (fun _ _=>rfl)) (pa_cons (hs:=st_Subscript) (pe_ix ix_tup (pv 9) pe_int (fun _ _=>rfl)) pa_nil))))) pa_nil)))) (pg_sub (pv 8) (pe_ix ix_tup (pv 9) pe_int (fun _ _=>rfl)) set_list))))
      (pss_one (ps_set (i:=6) sc_law_steps.nd rfl (Or.inl rfl) (pv 8))))))
      (pss_one (ps_ret (pv 6)))))),?_⟩
    have hl:xs.length=es.length:=by rw [hR.length,List.length_map]
    have z50:Sm 50000 (enc kd (ks kd ok).zero):=(sm_zero kd ok).mono (by decide)
    have nones:∀ (H1:Hp) (j:Nat) (ys:List V),Same H H1→j≤n→(ys.length=j∧∀ i,i < j→∃ v,ys[i]?=some v∧IsW H1 v (enc kd (ks kd ok).zero))→j=n→IsVec H1 kd 50000 n ys (fun _=>(ks kd ok).zero):=fun H1 j ys _ _ h e=>by
      subst e
      exact ⟨h.1,fun i hi=>let ⟨v,a,b⟩:=h.2 i hi; ⟨v,a,b,z50⟩⟩
    have more:∀ {H1 H2:Hp} {j:Nat} {ys:List V} {v:V},Same H1 H2→(ys.length=j∧∀ i,i < j→∃ v,ys[i]?=some v∧IsW H1 v (enc kd (ks kd ok).zero))→IsW H2 v (enc kd (ks kd ok).zero)→((ys ++ [v]).length=j + 1∧∀ i,i < j + 1→∃ u,(ys ++ [v])[i]?=some u∧IsW H2 u (enc kd (ks kd ok).zero)):=fun {H1 H2 j ys v} s12 h hv=>by
      refine ⟨by rw [List.length_append,List.length_singleton,h.1],fun i hi=>?_⟩
      by_cases c:i < j
      · obtain ⟨u,a,b⟩:=h.2 i c
        exact ⟨u,by rw [List.getElem?_append_left (by rw [h.1]; exact c)]; exact a,b.same s12⟩
      · obtain rfl:i=j:=by omega
        exact ⟨v,by rw [List.getElem?_append_right (by rw [h.1]; exact Nat.le_refl _),h.1]; simp,hv⟩
    refine seqK (fun σ H'=>∃ l ys,σ=[some (.int (kno kd)),some (.int m),some (.int (n:Int)),some (.ref rl),some (.int (p:Int)),some (.int (k:Int)),some (.ref l),none,none,none]∧Same H H'∧H l=none∧H' l=some (.lst ys)∧IsVec H' kd 50000 n ys (fun _=>(ks kd ok).zero)) (fun nx kk=>?_) ?_
    · refine ⟨_,rfl,(n:Int),rfl,by omega,by omega,comp_range (n:=(n:Int).toNat) (fun j ys H'=>Same H H'∧(ys.length=j∧∀ i,i < j→∃ v,ys[i]?=some v∧IsW H' v (enc kd (ks kd ok).zero))) (lines (by omega)) ⟨Same.refl H,rfl,fun i hi=>absurd hi (Nat.not_lt_zero i)⟩ ?_ ?_⟩
      · rintro j ys H' hj ⟨s',hy⟩ ca
        refine ⟨⟨rfl,rfl⟩,_,rfl,kno kd,rfl,kno_lo kd,kno_hi kd,fun v H2 s2 w2=>?_⟩
        rw [noneW_kno kd ok] at w2
        exact ⟨s'.trans s2,more s2 hy w2⟩
      · rintro ys H' ⟨s',hy⟩ l nl
        rw [Int.toNat_natCast] at hy
        exact kk _ _ ⟨l,ys,rfl,s'.trans (same_one nl),same_none s' nl,upd_same,(nones H' n ys s' (Nat.le_refl _) hy rfl).st (same_st (same_one nl))⟩
    rintro σ H1 ⟨l1,ys1,rfl,s1,n1,z1,v1⟩
    refine ⟨_,rfl,kno kd,rfl,kno_lo kd,kno_hi kd,fun rv H2 s2 w2=>?_⟩
    rw [restW_kno kd ok] at w2
    have z2:=s2 _ _ z1
    refine ⟨_,rfl,_,rfl,l1,_,_,p,rfl,rfl,z2,(by rw [v1.1]; exact ixN_nat hp),?_⟩
    have s4:Same H (upd H2 l1 (.lst (ys1.set p rv))):=same_upd (s1.trans s2) n1
    have vec0:IsVec (upd H2 l1 (.lst (ys1.set p rv))) kd 50000 n (ys1.set p rv) (stepsV (ks kd ok) es p 0):=by
      refine (((v1.st (same_st s2)).st (stup_lst z2)).set (w2.st (stup_lst z2)) ((sm_one kd ok).mono (by decide))).eq fun i hi=>?_
      show _=(ks kd ok).when (i=p) (ks kd ok).one
      unfold KSR.when
      rfl
    have z4:(upd H2 l1 (.lst (ys1.set p rv))) l1=some (.lst (ys1.set p rv)):=upd_same
    generalize upd H2 l1 (.lst (ys1.set p rv))=H4 at s4 vec0 z4
    generalize ys1.set p rv=ys0 at vec0 z4
    refine ⟨_,rfl,(k:Int),rfl,by omega,by omega,for_range (n:=(k:Int).toNat) (fun i σ H'=>∃ (l:Addr) (ys:List V) (o7 o8 o9:Option V),σ=[some (.int (kno kd)),some (.int m),some (.int (n:Int)),some (.ref rl),some (.int (p:Int)),some (.int (k:Int)),some (.ref l),o7,o8,o9]∧Same H H'∧H l=none∧H' l=some (.lst ys)∧IsVec H' kd 50000 n ys (stepsV (ks kd ok) es p i))
      ⟨l1,ys0,_,_,_,rfl,s4,n1,z4,vec0⟩ ?_ ?_⟩
    · rintro i σ H' hi ⟨l,ys,o7,o8,o9,rfl,s',nl,hy,vy⟩
      have hi:i < k:=by omega
      refine seqK (fun σ H2=>∃ l6 fs,σ=[some (.int (kno kd)),some (.int m),some (.int (n:Int)),some (.ref rl),some (.int (p:Int)),some (.int (k:Int)),some (.ref l),some (.int (0 + (i:Int))),some (.ref l6),o9]∧Same H' H2∧H' l6=none∧H2 l6=some (.lst fs)∧IsVec H2 kd 50000 n fs (fun _=>(ks kd ok).zero)) (fun nx kk=>?_) ?_
      · refine ⟨_,rfl,(n:Int),rfl,by omega,by omega,comp_range (n:=(n:Int).toNat) (fun j ys H2=>Same H' H2∧(ys.length=j∧∀ i,i < j→∃ v,ys[i]?=some v∧IsW H2 v (enc kd (ks kd ok).zero))) (lines (by omega)) ⟨Same.refl H',rfl,fun i hi=>absurd hi (Nat.not_lt_zero i)⟩ ?_ ?_⟩
        · rintro j ys H2 hj ⟨s2,hy⟩ ca
          refine ⟨⟨rfl,rfl⟩,_,rfl,kno kd,rfl,kno_lo kd,kno_hi kd,fun v H3 s3 w3=>?_⟩
          rw [noneW_kno kd ok] at w3
          exact ⟨s2.trans s3,more s3 hy w3⟩
        · rintro ys H2 ⟨s2,hy⟩ l6 nl6
          rw [Int.toNat_natCast] at hy
          exact kk _ _ ⟨l6,ys,rfl,s2.trans (same_one nl6),same_none s2 nl6,upd_same,(nones H2 n ys (s'.trans s2) (Nat.le_refl _) hy rfl).st (same_st (same_one nl6))⟩
      rintro σ H6 ⟨l6,fs0,rfl,s6,n6,z6,vec6⟩
      refine ⟨_,rfl,rl,rfl,⟨xs,SqL.of (s6 _ _ (s' _ _ hx))⟩,for_list (xs:=xs) (fun j σ H7=>∃ (fs:List V) (o9:Option V),σ=[some (.int (kno kd)),some (.int m),some (.int (n:Int)),some (.ref rl),some (.int (p:Int)),some (.int (k:Int)),some (.ref l),some (.int (0 + (i:Int))),some (.ref l6),o9]∧Same H' H7∧H7 l6=some (.lst fs)∧IsVec H7 kd 50000 n fs (stepV (ks kd ok) (es.take j) (stepsV (ks kd ok) es p i)))
        ⟨_,_,rfl,s6,z6,vec6.eq fun j _=>rfl⟩ (fun j σ H7 _ ⟨_,_,_,s7,_⟩=>SqL.of (s7 _ _ (s' _ _ hx))) ?_ ?_⟩
      · rintro j x σ H7 ex ⟨fs,o9,rfl,s7,hf,vf⟩
        have hj:j < es.length:=by have:=(List.getElem?_eq_some_iff.mp ex).1; omega
        have ee:es[j]?=some es[j]:=List.getElem?_eq_getElem hj
        obtain ⟨r,er,pr,wv,rfl,f2,f3⟩:=pget hR ex
        rw [List.getElem?_map,ee] at er
        obtain rfl:Edge.road kd es[j]=r:=Option.some.inj er
        obtain ⟨g1,g2,g3⟩:=hE es[j] (List.getElem_mem hj)
        have fm:=Ft.mul i hi es[j] (List.getElem_mem hj)
        generalize es[j]=e at ee f2 f3 g1 g2 g3 fm
        have s07:=s'.trans s7
        have t7:=s07 _ _ f2
        obtain ⟨vv,ev,wv',sv⟩:=vy.2 e.f g1
        obtain ⟨vg,eg,wg,sg⟩:=vf.2 e.t g2
        refine ⟨_,rfl,_,rfl,_,rfl,pr,_,_,_,rfl,rfl,SqT.of t7,rfl,l6,_,_,_,rfl,rfl,SqL.of hf,atI_nat eg,?_⟩
        refine ⟨_,rfl,_,rfl,_,rfl,_,rfl,pr,_,_,_,rfl,rfl,SqT.of t7,rfl,l,_,_,_,rfl,rfl,SqL.of (s7 _ _ hy),atI_nat ev,_,rfl,pr,_,_,_,rfl,rfl,SqT.of t7,rfl,?_⟩
        refine ⟨kd,ok,m,vv,wv,_,e.c,rfl,hmi,wv'.same s7,f3.same s07,sv.mono (by decide),g3.mono (by decide),fun v8 H8 s8 w8=>?_⟩
        have hf8:=s8 _ _ hf
        refine ⟨kd,ok,vg,v8,_,_,rfl,wg.same s8,w8,sg.mono (by decide),fm.mono (by decide),fun v9 H9 s9 w9=>?_⟩
        have hf9:=s9 _ _ hf8
        refine ⟨_,rfl,_,rfl,pr,_,_,_,rfl,rfl,SqT.of (s9 _ _ (s8 _ _ t7)),rfl,l6,_,_,e.t,rfl,rfl,hf9,(by rw [vf.1]; exact ixN_nat g2),?_⟩
        refine ⟨_,_,rfl,same_upd ((s7.trans s8).trans s9) n6,upd_same,?_⟩
        have sadd:=Ft.sum i hi (j + 1) e.t
        rw [stepV_take ee,if_pos rfl] at sadd
        refine ((vf.st ((same_st (s8.trans s9)).trans (stup_lst hf9))).set (t:=e.t) (w9.st (stup_lst hf9)) sadd).eq fun b hb=>?_
        rw [stepV_take ee]
        by_cases c:b=e.t
        · subst c; rfl
        · simp only [if_neg c]
      · rintro σ H7 ⟨fs,o9,rfl,s7,hf,vf⟩
        rw [hl,List.take_length] at vf
        exact ⟨_,rfl,l6,fs,_,_,_,rfl,s'.trans s7,same_none s' n6,hf,vf⟩
    · rintro σ H' ⟨l,ys,o7,o8,o9,rfl,s',nl,hy,vy⟩
      rw [Int.toNat_natCast] at vy
      exact ⟨_,rfl,q l ys H' s' nl hy vy⟩
end
end K14
namespace K14
open PySem L2 Ws
seal PE PT PW PA PC PS PSs PG PGs PI PO PJ PTs
section
variable {P : Program} {w : World} {K : PySem.W.Frag} {mg : Str → Option Value} {base : Heap} {a : Adr}
def nats (l:List Nat):List V:=l.map fun k:Nat=>V.int (k:Int)
theorem nats_len (l:List Nat):(nats l).length=l.length:=List.length_map ..
theorem enc_shape {kd:Kd} (x y:Car kd):(∃ a b c d,enc kd x=.pair a b∧enc kd y=.pair c d)∨((∀ a b,enc kd x≠.pair a b)∧(∀ a b,enc kd y≠.pair a b)):=by
  cases kd with
  | likeliest=>exact .inl ⟨_,_,_,_,rfl,rfl⟩
  | chances=>exact .inl ⟨_,_,_,_,rfl,rfl⟩
  | widest=>exact .inr ⟨(fun _ _ h=>nomatch h),(fun _ _ h=>nomatch h)⟩
  | rests n=>exact .inr ⟨(fun _ _ h=>nomatch h),(fun _ _ h=>nomatch h)⟩
  | fewest=>exact .inr ⟨(fun _ _ h=>by cases x <;> cases h),(fun _ _ h=>by cases y <;> cases h)⟩
  | musts=>exact .inr ⟨(fun _ _ h=>by cases x <;> cases h),(fun _ _ h=>by cases y <;> cases h)⟩
  | counted=>exact .inr ⟨(fun _ _ h=>by cases x <;> cases h),(fun _ _ h=>by cases y <;> cases h)⟩
theorem eqV_int (x y:Int):eqV (.int x) (.int y)=decide (x=y):=by
  show (x == y)=_
  rw [Bool.beq_eq_decide_eq]
theorem eqVs_two (c1 c2 c3 c4:Int):eqVs [V.int c1,V.int c2] [V.int c3,V.int c4]=decide (Wd.pair c1 c2=Wd.pair c3 c4):=by
  show (eqV (.int c1) (.int c3) && (eqV (.int c2) (.int c4) && true))=_
  rw [eqV_int,eqV_int,Bool.and_true,← Bool.decide_and]
  exact decide_eq_decide.mpr ⟨fun h=>by rw [h.1,h.2],fun h=>by cases h; exact ⟨rfl,rfl⟩⟩
theorem two_W {H:Hp} {v1 v2:V} {kd:Kd} {x y:Car kd} (h1:IsW H v1 (enc kd x)) (h2:IsW H v2 (enc kd y)):(scal v1 v2=true∧(v1=v2 ↔ enc kd x=enc kd y))∨(∃ r1 r2 xs ys,v1=.ref r1∧v2=.ref r2∧SqT K H r1 xs∧SqT K H r2 ys∧xs.all flatV=true∧ys.all flatV=true∧eqVs xs ys=decide (enc kd x=enc kd y)):=by
  rcases enc_shape x y with ⟨c1,c2,c3,c4,e1,e2⟩ | ⟨n1,n2⟩
  · rw [e1] at h1
    rw [e2] at h2
    obtain ⟨r1,rfl,f1⟩:=isW_pair h1
    obtain ⟨r2,rfl,f2⟩:=isW_pair h2
    exact .inr ⟨r1,r2,_,_,rfl,rfl,SqT.of f1,SqT.of f2,rfl,rfl,by rw [eqVs_two,e1,e2]⟩
  · refine .inl ?_
    generalize enc kd x=X at h1 n1
    generalize enc kd y=Y at h2 n2
    cases X with
    | pair c1 c2=>exact absurd rfl (n1 c1 c2)
    | non =>
      obtain rfl:=isW_non h1
      cases Y with
      | pair c1 c2=>exact absurd rfl (n2 c1 c2)
      | non=>obtain rfl:=isW_non h2; exact ⟨rfl,fun _=>rfl,fun _=>rfl⟩
      | int j=>obtain rfl:=isW_int h2; exact ⟨rfl,(fun h=>nomatch h),(fun h=>nomatch h)⟩
    | int i =>
      obtain rfl:=isW_int h1
      cases Y with
      | pair c1 c2=>exact absurd rfl (n2 c1 c2)
      | non=>obtain rfl:=isW_non h2; exact ⟨rfl,(fun h=>nomatch h),(fun h=>nomatch h)⟩
      | int j=>obtain rfl:=isW_int h2; exact ⟨rfl,(fun h=>by cases h; rfl),(fun h=>by cases h; rfl)⟩
theorem neD {H:Hp} {v1 v2:V} {kd:Kd} {x y:Car kd} {Q:VK} (h1:IsW H v1 (enc kd x)) (h2:IsW H v2 (enc kd y)) (q:∀ b:Bool,(b=true ↔ x≠y)→Q (.bl b) H):rNe v1 v2 H Q∨rNeT K v1 v2 H Q:=by
  have ex:(enc kd x=enc kd y) ↔ x=y:=⟨fun h=>enc_inj h,fun h=>by rw [h]⟩
  rcases two_W (K:=K) h1 h2 with ⟨s,e⟩ | ⟨r1,r2,xs,ys,rfl,rfl,q1,q2,f1,f2,e⟩
  · refine .inl ⟨s,q _ ?_⟩
    rw [Bool.not_eq_true',decide_eq_false_iff_not,e,ex]
  · refine .inr ⟨r1,r2,xs,ys,rfl,rfl,q1,q2,f1,f2,q _ ?_⟩
    rw [e,Bool.not_eq_true',decide_eq_false_iff_not,ex]
theorem eqD {H:Hp} {v1 v2:V} {kd:Kd} {x y:Car kd} {Q:VK} (h1:IsW H v1 (enc kd x)) (h2:IsW H v2 (enc kd y)) (q:∀ b:Bool,(b=true ↔ x=y)→Q (.bl b) H):rEq v1 v2 H Q∨rEqT K v1 v2 H Q:=by
  have ex:(enc kd x=enc kd y) ↔ x=y:=⟨fun h=>enc_inj h,fun h=>by rw [h]⟩
  rcases two_W (K:=K) h1 h2 with ⟨s,e⟩ | ⟨r1,r2,xs,ys,rfl,rfl,q1,q2,f1,f2,e⟩
  · refine .inl ⟨s,q _ ?_⟩
    rw [decide_eq_true_eq,e,ex]
  · refine .inr ⟨r1,r2,xs,ys,rfl,rfl,q1,q2,f1,f2,q _ ?_⟩
    rw [e,decide_eq_true_eq,ex]
def spBett (a:Adr):Sp:=fun vs H Q _=>∃ (kp:Addr) (v1 v2:V) (kd:Kd) (ok:KdOk kd) (x y:Car kd),vs=[.ref kp,v1,v2]∧KindAt a H kp kd∧HasK kd∧IsW H v1 (enc kd x)∧IsW H v2 (enc kd y)∧Sm 100000 (enc kd x)∧Sm 100000 (enc kd y) ∧
  ∀ (b:Bool) H',Same H H'→(b=true ↔ x≠y∧(ks kd ok).add x y=x)→Q (.bl b) H'
theorem sc_betters:FnScope ["kind","worth","other"] ["kind","worth","other"] (defScope (top 21)):=⟨rfl,rfl,rfl,by decide +kernel,rfl,by decide +kernel,by decide +kernel⟩
theorem d_betters (T:Tx K mg a) (V_together:Mth P w K mg base 35 a.cl "together" ["self","one","other"] (fun i=>spAdd a i.1)) (F:DefAt K mg "betters" (top 21)):Dn P w K mg base 36 "betters" ["kind","worth","other"] (spBett a):=by
  obtain ⟨f,fd,hm,F⟩:=F.ex
  refine ⟨f,fd,hm,F.kp,F.binds fun _ _ _ _ _ _ us hl=>match us,hl with | [_,_,_],_=>rfl,?_⟩
  refine F.okN sc_betters (fun vs H Q E h=>?_) (fun cdv A outer s H vs Q E hr h=>?_)
  · obtain ⟨_,_,_,_,_,_,_,rfl,_⟩:=h
    rfl
  · obtain ⟨kp,v1,v2,kd,ok,x,y,rfl,hk,hK,h1,h2,s1,s2,q⟩:=h
    refine ⟨_,(pss_one (ps_ret (pe_and (pe_cmpR (op_ne.or (op_neT hr.units0)) (pv 1) (pv 2) (nomark _)) (pe_one (pe_cmpR (op_eq.or (op_eqT hr.units0)) (pe_methV (pv 0) V_together (hr.mono (by decide)) passE0 (pa_cons (hs:=st_Name) (pv 1) (pa_cons (hs:=st_Name) (pv 2) pa_nil))) (pv 1) (nomark _)))))),?_⟩
    obtain ⟨kdx,hk⟩:=hk
    refine ⟨_,rfl,_,rfl,neD h1 h2 fun b hb=>⟨_,rfl,iteB (fun c=>?_) (fun c=>?_)⟩⟩
    · refine ⟨_,rfl,⟨kd,hK⟩,kp,kdx,_,rfl,hk,kfs_no _ (by decide +kernel),_,rfl,_,rfl,kp,v1,v2,ok,x,y,rfl,⟨kdx,hk⟩,h1,h2,s1.mono (by decide),s2.mono (by decide),fun v3 H3 s3 w3=>?_⟩
      refine ⟨_,rfl,eqD w3 (h1.same s3) fun b2 hb2=>q b2 H3 s3 ?_⟩
      rw [hb2]
      exact ⟨fun z=>⟨hb.mp c,z⟩,fun z=>z.2⟩
    · refine q false H (Same.refl H) ⟨(fun z=>by cases z),fun z=>?_⟩
      rw [hb.mpr z.1] at c; cases c
def KeepTL (H H':Hp):Prop:=(∀ b xs,H b=some (.tup xs)→H' b=some (.tup xs))∧∀ b xs,H b=some (.lst xs)→H' b=some (.lst xs)
theorem Same.tl {H H':Hp} (s:Same H H'):KeepTL H H':=⟨fun b xs e=>s _ _ e,fun b xs e=>s _ _ e⟩
theorem KeepTL.trans {H H1 H2:Hp} (x:KeepTL H H1) (y:KeepTL H1 H2):KeepTL H H2:=⟨fun b xs e=>y.1 b xs (x.1 b xs e),fun b xs e=>y.2 b xs (x.2 b xs e)⟩
theorem tl_dict {H:Hp} {d:Addr} {kvs:List (Key × V)} {o:HO} (h:H d=some (.dK kvs)):KeepTL H (upd H d o) :=
  ⟨fun b xs e=>by rw [upd_ne (fun z=>by rw [z,h] at e; cases e)]; exact e,fun b xs e=>by rw [upd_ne (fun z=>by rw [z,h] at e; cases e)]; exact e⟩
theorem IsW.tl {H H':Hp} (k:KeepTL H H') {v:V} {x:Wd} (h:IsW H v x):IsW H' v x:=h.st k.1
abbrev BR:Nat:=60000
def IsRE (H0 H:Hp) (kd:Kd) (p:Key × V) (r:RE (Car kd)):Prop:=p.1=Sum.inl (r.1:Int)∧Sm BR (enc kd r.2.1)∧∃ tp wv lw,p.2=.ref tp∧H tp=some (.tup [wv,.ref lw])∧IsW H wv (enc kd r.2.1)∧H lw=some (.lst (nats r.2.2))∧H0 lw=none
theorem IsRE.tl {H0 H H':Hp} {kd:Kd} {p:Key × V} {r:RE (Car kd)} (k:KeepTL H H'):IsRE H0 H kd p r→IsRE H0 H' kd p r:=fun ⟨e,s,tp,wv,lw,a,b,c,d,f⟩=>⟨e,s,tp,wv,lw,a,k.1 _ _ b,c.tl k,k.2 _ _ d,f⟩
def IsRL (H0 H:Hp) (kd:Kd) (kvs:List (Key × V)) (RL:List (RE (Car kd))):Prop:=Paired (IsRE H0 H kd) kvs RL
theorem IsRL.tl {H0 H H':Hp} {kd:Kd} {kvs:List (Key × V)} {RL:List (RE (Car kd))} (k:KeepTL H H') (h:IsRL H0 H kd kvs RL):IsRL H0 H' kd kvs RL:=Paired.mapP h fun _ _ q=>q.tl k
theorem rl_get {H0 H:Hp} {kd:Kd}:∀ {kvs:List (Key × V)} {RL:List (RE (Car kd))},IsRL H0 H kd kvs RL→(RL.map (·.1)).Nodup→∀ {r},r∈RL→∃ v,valV kvs (Sum.inl (r.1:Int))=some v∧IsRE H0 H kd (Sum.inl (r.1:Int),v) r
  | _,_,.nil,_,_,h=>nomatch h
  | p :: kvs,q :: RL,.cons e hr,nd,r,h=>by
    rw [List.map_cons] at nd
    obtain ⟨n1,n2⟩:=List.nodup_cons.mp nd
    rcases List.mem_cons.mp h with rfl | h
    · exact ⟨p.2,valV_pos e.1,by rw [← e.1]; exact e⟩
    · obtain ⟨v,e1,e2⟩:=rl_get hr n2 h
      refine ⟨v,?_,e2⟩
      rw [valV_neg (fun z=>n1 ?_)]
      · exact e1
      · rw [e.1] at z
        have:=Sum.inl.inj z
        rw [show q.1=r.1 by omega]
        exact List.mem_map.mpr ⟨r,h,rfl⟩
theorem rl_none {H0 H:Hp} {kd:Kd} {v:Nat}:∀ {kvs:List (Key × V)} {RL:List (RE (Car kd))},IsRL H0 H kd kvs RL→v ∉ RL.map (·.1)→valV kvs (Sum.inl (v:Int))=none
  | _,_,.nil,_=>rfl
  | p :: kvs,q :: RL,.cons e hr,h=>by
    rw [valV_neg (fun z=>h ?_)]
    · exact rl_none hr fun z=>h (List.mem_cons_of_mem _ z)
    · rw [e.1] at z
      have:=Sum.inl.inj z
      rw [List.map_cons]
      exact List.mem_cons.mpr (.inl (by omega))
theorem key_iff {x y:Nat}:((Sum.inl (x:Int):Key)=Sum.inl (y:Int)) ↔ x=y:=⟨fun h=>by have:=Sum.inl.inj h; omega,fun h=>by rw [h]⟩
theorem rl_drop {H0 H:Hp} {kd:Kd} {v:Nat}:∀ {kvs:List (Key × V)} {RL:List (RE (Car kd))},IsRL H0 H kd kvs RL→IsRL H0 H kd (dropK kvs (Sum.inl (v:Int))) (RL.filter fun r=>decide (r.1≠v))
  | _,_,.nil=>.nil
  | p :: kvs,q :: RL,.cons e hr=>by
    have ih:=rl_drop (v:=v) hr
    unfold dropK at ih ⊢
    by_cases c:q.1=v
    · rw [List.filter_cons_of_neg (by rw [e.1,c]; simp),List.filter_cons_of_neg (by simpa using c)]
      exact ih
    · rw [List.filter_cons_of_pos (by rw [e.1]; simp; omega),List.filter_cons_of_pos (by simpa using c)]
      exact .cons e ih
theorem rl_any {H0 H:Hp} {kd:Kd} {v:Nat}:∀ {kvs:List (Key × V)} {RL:List (RE (Car kd))},IsRL H0 H kd kvs RL→(kvs.any fun kv=>decide (kv.1=Sum.inl (v:Int)))=(RL.map (·.1)).contains v
  | _,_,.nil=>rfl
  | p :: kvs,q :: RL,.cons e hr=>by
    rw [List.any_cons,List.map_cons,List.contains_cons,rl_any hr]
    congr 1
    rw [e.1,show decide ((Sum.inl (q.1:Int):Key)=Sum.inl (v:Int))=decide (q.1=v) from decide_eq_decide.mpr key_iff]
    by_cases c:q.1=v
    · rw [c]; simp
    · rw [decide_eq_false c]
      symm
      exact beq_false_of_ne (Ne.symm c)
theorem rl_put {H0 H:Hp} {kd:Kd} {kvs:List (Key × V)} {RL:List (RE (Car kd))} {r:RE (Car kd)} {v:V} (h:IsRL H0 H kd kvs RL) (e:IsRE H0 H kd (Sum.inl (r.1:Int),v) r):IsRL H0 H kd (putK kvs (Sum.inl (r.1:Int)) v) (putR RL r):=by
  unfold putK putR
  rw [rl_any h]
  split
  · rename_i hc
    clear hc
    induction h with
    | nil=>exact .nil
    | cons e' hr ih =>
      rename_i p q kvs RL
      rw [List.map_cons,List.map_cons]
      refine .cons ?_ ih
      by_cases c:q.1=r.1
      · rw [if_pos (by rw [e'.1,c]),if_pos c,e'.1,c]; exact e
      · rw [if_neg (by rw [e'.1]; exact fun z=>c (key_iff.mp z)),if_neg c]; exact e'
  · exact Paired.snoc h e
def spBPl (a:Adr):Sp:=fun vs H Q _=>∃ (kp d:Addr) (kd:Kd) (ok:KdOk kd) (kvs:List (Key × V)) (RL:List (RE (Car kd))) (H0:Hp),vs=[.ref kp,.ref d]∧KindAt a H kp kd∧HasK kd∧Picks (ks kd ok)∧Tops (ks kd ok)∧H d=some (.dK kvs)∧IsRL H0 H kd kvs RL∧(RL.map (·.1)).Nodup∧RL≠[] ∧
  ∀ r H',Same H H'→r∈RL→(∀ r'∈RL,(ks kd ok).le r'.2.1 r.2.1)→Q (.int (r.1:Int)) H'
theorem DGet.f {H:Hp} {d:Addr} {o:Obj} {kvs:List (Key × V)} {k:Key} (e:H d=some (.frz o (.dK kvs))):DGet H d (kV k) (valV kvs k):=.inl ⟨kvs,k,.inr ⟨o,e⟩,rfl,rfl⟩
theorem sc_best_place:FnScope ["kind","reached","best","place"] ["kind","reached"] (defScope (top 20)):=⟨rfl,rfl,rfl,by decide +kernel,rfl,by decide +kernel,by decide +kernel⟩
theorem d_best_place (T:Tx K mg a) (D_betters:Dn P w K mg base 36 "betters" ["kind","worth","other"] (spBett a)) (F:DefAt K mg "best_place" (top 20)):Dn P w K mg base 37 "best_place" ["kind","reached"] (spBPl a):=by
  obtain ⟨f,fd,hm,F⟩:=F.ex
  refine ⟨f,fd,hm,F.kp,F.binds fun _ _ _ _ _ _ us hl=>match us,hl with | [_,_],_=>rfl,?_⟩
  refine F.okN sc_best_place (fun vs H Q E h=>?_) (fun cdv A outer s H vs Q E hr h=>?_)
  · obtain ⟨_,_,_,_,_,_,_,rfl,_⟩:=h
    rfl
  · obtain ⟨kp,d,kd,ok,kvs,RL,H0,rfl,hk,hK,hpk,htp,hd,hRL,nd,hne,q⟩:=h
    refine ⟨_,(pss_cons (ps_set (i:=2) sc_best_place.nd rfl (Or.inl rfl) pe_non)
      (pss_cons (ps_thaw (ps_for PassesOwn.never rfl (pi_dict (pv 1)) (pg_name (i:=3) sc_best_place.nd rfl (Or.inl rfl)) (pss_one (ps_if (PW.pt (pw_or (pt_cmp (pc_isN (pv 2))) (pw_or1 (pt_val (pe_callD D_betters (hr.mono (by decide)) rfl passE0 (pa_cons (hs:=st_Name) (pv 0) (pa_cons (hs:=st_Subscript) (pe_ix ix_tup (pe_dget (hr.al 0) (pv 1) (pv 3) (fun _ _=>rfl)) pe_int (fun _ _=>rfl)) (pa_cons (hs:=st_Subscript) (pe_ix ix_tup (pe_dget (hr.al 0) (pv 1) (pv 2) (fun _ _=>rfl)) pe_int (fun _ _=>rfl)) pa_nil)))) (fun _=>rfl))))) (pss_one (ps_set (i:=2) sc_best_place.nd rfl (Or.inl rfl) (pv 3))) pss_nil))))
      (pss_one (ps_ret (pv 2))))),?_⟩
    refine ⟨_,rfl,d,kvs,rfl,hd,fun o=>?_⟩
    have z1:=upd_same (H:=H) (a:=d) (o:=.frz o (.dK kvs))
    have b1:SameBut d H (upd H d (.frz o (.dK kvs))):=fun p u hp e=>by rw [upd_ne hp]; exact e
    have tl1:=tl_dict (o:=.frz o (.dK kvs)) hd
    generalize upd H d (.frz o (.dK kvs))=H1 at z1 b1 tl1
    have kl:kvs.length=RL.length:=Paired.length hRL
    have hk1:KindAt a H1 kp kd:=by
      obtain ⟨dx,e⟩:=hk
      exact ⟨dx,b1 _ _ (fun z=>by rw [z,hd] at e; cases e) e⟩
    refine for_dict (d:=d) (o:=o) (kvs:=kvs) (fun i σ H'=>∃ bv o3,σ=[some (.ref kp),some (.ref d),some bv,o3]∧Same H1 H'∧((i=0∧bv=.non)∨∃ r,r∈RL.take i∧bv=.int (r.1:Int)∧∀ r'∈RL.take i,(ks kd ok).le r'.2.1 r.2.1)) ⟨_,_,rfl,Same.refl H1,.inl ⟨rfl,rfl⟩⟩ (fun i σ H' _ ⟨_,_,_,s',_⟩=>s' _ _ z1) ?_ ?_
    · rintro i k v σ H2 ekv ⟨bv,o3,rfl,s2,hb⟩
      have hi:i < RL.length:=by have:=(List.getElem?_eq_some_iff.mp ekv).1; omega
      have er:RL[i]?=some RL[i]:=List.getElem?_eq_getElem hi
      have rm:RL[i]∈RL:=List.getElem_mem hi
      have et:RL.take (i + 1)=RL.take i ++ [RL[i]]:=(List.take_append_getElem hi).symm
      have e0:=pair_at hRL i ekv er
      generalize RL[i]=r at er rm et e0
      obtain ⟨ek,_⟩:=e0
      have ek:k=Sum.inl (r.1:Int):=ek
      subst ek
      have LL:IsRL H0 H2 kd kvs RL:=hRL.tl (tl1.trans (Same.tl s2))
      have d2:=s2 _ _ z1
      have set:(∀ r'∈RL.take i,(ks kd ok).le r'.2.1 r.2.1)→∀ H',Same H1 H'→∃ bv o3,([some (.ref kp),some (.ref d),some (.int (r.1:Int)),some (.int (r.1:Int))]:L2.St)=[some (.ref kp),some (.ref d),some bv,o3]∧Same H1 H'∧((i + 1=0∧bv=.non)∨∃ r,r∈RL.take (i + 1)∧bv=.int (r.1:Int)∧∀ r'∈RL.take (i + 1),(ks kd ok).le r'.2.1 r.2.1):=fun hle H' s'=>by
        refine ⟨_,_,rfl,s',.inr ⟨r,by rw [et]; exact List.mem_append_right _ (List.mem_singleton.mpr rfl),rfl,fun r' hr'=>?_⟩⟩
        rw [et] at hr'
        rcases List.mem_append.mp hr' with hr' | hr'
        · exact hle r' hr'
        · rw [List.mem_singleton.mp hr']; exact le_refl _ _
      rcases hb with ⟨rfl,rfl⟩ | ⟨rb,hrb,rfl,hle⟩
      · refine ⟨_,rfl,_,rfl,iteD (fun _=>iteT ?_) (fun z=>absurd rfl z)⟩
        exact ⟨_,rfl,set (fun r' hr'=>by rw [List.take_zero] at hr'; cases hr') H2 s2⟩
      · refine ⟨_,rfl,_,rfl,iteD (fun z=>nomatch z) (fun _=>?_)⟩
        have rbm:=List.mem_of_mem_take hrb
        obtain ⟨va,ea,_,sa,ta,wa,la,rfl,a1,a2,a3,_⟩:=rl_get LL nd rm
        obtain ⟨vb,eb,_,sb,tb,wb,lb,rfl,b1',b2,b3,_⟩:=rl_get LL nd rbm
        have ga:DGet H2 d (.int (r.1:Int)) (some (.ref ta)):=ea ▸ DGet.f (k:=Sum.inl (r.1:Int)) d2
        have gb:DGet H2 d (.int (rb.1:Int)) (some (.ref tb)):=eb ▸ DGet.f (k:=Sum.inl (rb.1:Int)) d2
        refine ⟨_,rfl,_,rfl,_,rfl,d,.ref ta,rfl,ga,ta,_,_,_,rfl,rfl,SqT.of a1,rfl,?_⟩
        refine ⟨_,rfl,_,rfl,d,.ref tb,rfl,gb,tb,_,_,_,rfl,rfl,SqT.of b1',rfl,?_⟩
        refine ⟨kp,wa,wb,kd,ok,r.2.1,rb.2.1,rfl,hk1.same s2,hK,a2,b2,sa.mono (by decide),sb.mono (by decide),fun b H3 s3 hb3=>⟨_,rfl,iteB (fun c=>?_) (fun c=>?_)⟩⟩
        · obtain ⟨_,hadd⟩:=hb3.mp c
          refine ⟨_,rfl,set (fun r' hr'=>le_trans _ (hle r' hr') ⟨r.2.1,by rw [(ks kd ok).add_comm]; exact hadd⟩) H3 (s2.trans s3)⟩
        · have lab:(ks kd ok).le r.2.1 rb.2.1:=by
            rcases hpk r.2.1 rb.2.1 with h | h
            · by_cases e:r.2.1=rb.2.1
              · rw [e]; exact le_refl _ _
              · rw [hb3.mpr ⟨e,h⟩] at c; cases c
            · exact ⟨rb.2.1,h⟩
          refine ⟨_,_,rfl,s2.trans s3,.inr ⟨rb,by rw [et]; exact List.mem_append_left _ hrb,rfl,fun r' hr'=>?_⟩⟩
          rw [et] at hr'
          rcases List.mem_append.mp hr' with hr' | hr'
          · exact hle r' hr'
          · rw [List.mem_singleton.mp hr']; exact lab
    · rintro σ H2 ⟨bv,o3,rfl,s2,hb⟩
      rw [kl,List.take_length] at hb
      have nf:∀ (o':Obj) (u':HO),H d≠some (.frz o' u'):=fun o' u' z=>by rw [hd] at z; cases z
      refine ⟨d,o,kvs,s2 _ _ z1,nf,?_⟩
      have sF:Same H (upd H2 d (.dK kvs)):=fun p u e=>by
        by_cases c:p=d
        · subst c; rw [upd_same]; rw [hd] at e; exact e
        · rw [upd_ne c]; exact s2 _ _ (b1 p u c e)
      rcases hb with ⟨z,_⟩ | ⟨r,hr',rfl,hle⟩
      · exact absurd (List.length_eq_zero_iff.mp z) hne
      · exact ⟨_,rfl,q r _ sF hr' hle⟩
def spOffer (a:Adr):Sp:=fun vs H Q _=>∃ (kp d lw:Addr) (wv:V) (kd:Kd) (ok:KdOk kd) (t:Nat) (x:Car kd) (ks':List Nat) (kvs:List (Key × V)) (RL:List (RE (Car kd))) (H0:Hp),vs=[.ref kp,.ref d,.int (t:Int),wv,.ref lw]∧KindAt a H kp kd∧HasK kd∧Picks (ks kd ok)∧H d=some (.dK kvs)∧IsRL H0 H kd kvs RL∧(RL.map (·.1)).Nodup∧RL.length≤100∧IsW H wv (enc kd x)∧Sm BR (enc kd x)∧H lw=some (.lst (nats ks'))∧H0 lw=none ∧
  (x=(ks kd ok).zero→∀ H',Same H H'→Q .non H')∧(x≠(ks kd ok).zero→(∃ r∈RL,r.1=t∧(ks kd ok).le x r.2.1)→∀ H',Same H H'→Q .non H') ∧
  (x≠(ks kd ok).zero→(∀ r∈RL,r.1=t→(ks kd ok).le r.2.1 x)→∀ kvs' H',SameBut d H H'→H' d=some (.dK kvs')→IsRL H0 H' kd kvs' (putR RL (t,x,ks'))→Q .non H')
theorem sc_offer:FnScope ["kind","reached","place","worth","way"] ["kind","reached","place","worth","way"] (defScope (top 22)):=⟨rfl,rfl,rfl,by decide +kernel,rfl,by decide +kernel,by decide +kernel⟩
theorem d_offer (T:Tx K mg a) (V_none:Mth P w K mg base 1 a.cl "none" ["self"] (fun i=>spZero a i.1)) (D_betters:Dn P w K mg base 36 "betters" ["kind","worth","other"] (spBett a)) (F:DefAt K mg "offer" (top 22)):Dn P w K mg base 37 "offer" ["kind","reached","place","worth","way"] (spOffer a):=by
  obtain ⟨f,fd,hm,F⟩:=F.ex
  refine ⟨f,fd,hm,F.kp,F.binds fun _ _ _ _ _ _ us hl=>match us,hl with | [_,_,_,_,_],_=>rfl,?_⟩
  refine F.okN sc_offer (fun vs H Q E h=>?_) (fun cdv A outer s H vs Q E hr h=>?_)
  · obtain ⟨_,_,_,_,_,_,_,_,_,_,_,_,rfl,_⟩:=h
    rfl
  · obtain ⟨kp,d,lw,wv,kd,ok,t,x,ks',kvs,RL,H0,rfl,hk,hK,hpk,hd,hRL,nd,rl100,hw,sx,hlw,hlw0,q1,q2,q3⟩:=h
    refine ⟨_,(pss_cons (ps_if (pt_cmpR (op_eq.or (op_eqT hr.units0)) (pv 3) (pe_methV0 (pv 0) V_none (hr.mono (by decide)) passE0) (nomark _)) (pss_one (ps_retN)) pss_nil)
      (pss_one (ps_if (PW.pt (pw_or (pt_cmp (pc_dnotin (hr.al 0) (pv 2) (pv 1))) (pw_or1 (pt_val (pe_callD D_betters (hr.mono (by decide)) rfl passE0 (pa_cons (hs:=st_Name) (pv 0) (pa_cons (hs:=st_Name) (pv 3) (pa_cons (hs:=st_Subscript) (pe_ix ix_tup (pe_dget (hr.al 0) (pv 1) (pv 2) (fun _ _=>rfl)) pe_int (fun _ _=>rfl)) pa_nil)))) (fun _=>rfl))))) (pss_one (ps_dput (hr.al 0) (pv 1) (pv 2) (pe_tup (pa_cons (hs:=st_Name) (pv 3) (pa_cons (hs:=st_Name) (pv 4) pa_nil))) rfl)) pss_nil))),?_⟩
    obtain ⟨kdx,hk⟩:=hk
    have kl:kvs.length=RL.length:=Paired.length hRL
    refine ⟨_,rfl,_,rfl,⟨kd,hK⟩,kp,kdx,_,rfl,hk,kfs_no _ (by decide +kernel),kp,ok,rfl,⟨kdx,hk⟩,fun v0 H1 s1 w0=>?_⟩
    refine eqD (hw.same s1) w0 fun b hb=>⟨_,rfl,iteB (fun c=>q1 (hb.mp c) H1 s1) (fun c=>?_)⟩
    have xz:x≠(ks kd ok).zero:=fun z=>by rw [hb.mpr z] at c; cases c
    have d1:=s1 _ _ hd
    have L1:IsRL H0 H1 kd kvs RL:=hRL.tl (Same.tl s1)
    have put:∀ H2,Same H H2→(∀ r∈RL,r.1=t→(ks kd ok).le r.2.1 x)→∀ tp,H2 tp=none→∃ (d':Addr) (H4:Hp),V.ref d=.ref d'∧DPut (upd H2 tp (.tup [wv,.ref lw])) d' (.int (t:Int)) (.ref tp) H4∧Q .non H4:=fun H2 s2 hle tp ntp=>by
      have u3:=s2.trans (same_one (o:=.tup [wv,.ref lw]) ntp)
      have d3:=u3 _ _ hd
      have z3:=upd_same (H:=H2) (a:=tp) (o:=.tup [wv,.ref lw])
      have tl3:=Same.tl u3
      refine ⟨d,_,rfl,DPut.k (k:=Sum.inl (t:Int)) d3 (lines (by omega)),?_⟩
      have tl4:=tl3.trans (tl_dict (o:=.dK (putK kvs (Sum.inl (t:Int)) (.ref tp))) d3)
      refine q3 xz hle _ _ (fun p u hp e=>by rw [upd_ne hp]; exact u3 _ _ e) upd_same ?_
      refine rl_put (r:=(t,x,ks')) (hRL.tl tl4) ⟨rfl,sx,tp,wv,lw,rfl,(tl_dict d3).1 _ _ z3,hw.tl tl4,tl4.2 _ _ hlw,hlw0⟩
    by_cases ct:t∈RL.map (·.1)
    · obtain ⟨r,hr',rt⟩:=List.mem_map.mp ct
      obtain ⟨va,ea,_,sa,ta,wa,la,rfl,a1,a2,a3,_⟩:=rl_get L1 nd hr'
      rw [rt] at ea
      have ga:DGet H1 d (.int (t:Int)) (some (.ref ta)):=ea ▸ DGet.k (k:=Sum.inl (t:Int)) d1
      refine ⟨_,rfl,_,rfl,d,_,rfl,ga,_,rfl,iteF ?_⟩
      refine ⟨_,rfl,_,rfl,_,rfl,_,rfl,d,.ref ta,rfl,ga,ta,_,_,_,rfl,rfl,SqT.of a1,rfl,?_⟩
      refine ⟨kp,wv,wa,kd,ok,x,r.2.1,rfl,⟨kdx,s1 _ _ hk⟩,hK,hw.same s1,a2,sx.mono (by decide),sa.mono (by decide),fun b H2 s2 hb2=>⟨_,rfl,iteB (fun c2=>?_) (fun c2=>?_)⟩⟩
      · refine ⟨_,rfl,_,rfl,(by show 2≤sizeLine; decide),fun tp ntp=>⟨_,rfl,_,rfl,put H2 (s1.trans s2) (fun r' hr2 e=>?_) tp ntp⟩⟩
        have:r'=r:=by
          have i1:=List.getElem?_of_mem hr'
          have i2:=List.getElem?_of_mem hr2
          obtain ⟨i,hi⟩:=i1
          obtain ⟨j,hj⟩:=i2
          have k1:(RL.map (·.1))[i]?=some t:=by rw [List.getElem?_map,hi]; exact congrArg some rt
          have k2:(RL.map (·.1))[j]?=some t:=by rw [List.getElem?_map,hj]; exact congrArg some e
          have h1:=(List.getElem?_eq_some_iff.mp k1).1
          have:=(List.getElem?_inj h1 nd).mp (k1.trans k2.symm)
          subst this
          rw [hi] at hj
          exact (Option.some.inj hj).symm
        rw [this]
        exact ⟨x,by rw [(ks kd ok).add_comm]; exact (hb2.mp c2).2⟩
      · refine q2 xz ⟨r,hr',rt,?_⟩ H2 (s1.trans s2)
        rcases hpk x r.2.1 with h | h
        · by_cases e:x=r.2.1
          · rw [e]; exact le_refl _ _
          · rw [hb2.mpr ⟨e,h⟩] at c2; cases c2
        · exact ⟨r.2.1,h⟩
    · have ga:DGet H1 d (.int (t:Int)) none:=(rl_none L1 ct) ▸ DGet.k (k:=Sum.inl (t:Int)) d1
      refine ⟨_,rfl,_,rfl,d,_,rfl,ga,_,rfl,iteT (iteT ?_)⟩
      exact ⟨_,rfl,_,rfl,(by show 2≤sizeLine; decide),fun tp ntp=>⟨_,rfl,_,rfl,put H1 s1 (fun r hr' e=>absurd (List.mem_map.mpr ⟨r,hr',e⟩) ct) tp ntp⟩⟩
end
end K14
namespace K14
open PySem L2 Ws
seal PE PT PW PA PC PS PSs PG PGs PI PO PJ PTs
section
variable {P : Program} {w : World} {K : PySem.W.Frag} {mg : Str → Option Value} {base : Heap} {a : Adr}
def IsSE (H0 H:Hp) (p:Key × V) (r:Nat × List Nat):Prop:=p.1=Sum.inl (r.1:Int)∧∃ lw,p.2=.ref lw∧H lw=some (.lst (nats r.2))∧H0 lw=none
def IsSL (H0 H:Hp) (kvs:List (Key × V)) (SL:List (Nat × List Nat)):Prop:=Paired (IsSE H0 H) kvs SL
theorem IsSL.tl {H0 H H':Hp} {kvs:List (Key × V)} {SL:List (Nat × List Nat)} (k:KeepTL H H') (h:IsSL H0 H kvs SL):IsSL H0 H' kvs SL:=Paired.mapP h fun _ _ ⟨e,lw,a,b,c⟩=>⟨e,lw,a,k.2 _ _ b,c⟩
theorem sl_get {H0 H:Hp}:∀ {kvs:List (Key × V)} {SL:List (Nat × List Nat)},IsSL H0 H kvs SL→(SL.map (·.1)).Nodup→∀ {r},r∈SL→∃ v,valV kvs (Sum.inl (r.1:Int))=some v∧IsSE H0 H (Sum.inl (r.1:Int),v) r
  | _,_,.nil,_,_,h=>nomatch h
  | p :: kvs,q :: SL,.cons e hr,nd,r,h=>by
    rw [List.map_cons] at nd
    obtain ⟨n1,n2⟩:=List.nodup_cons.mp nd
    rcases List.mem_cons.mp h with rfl | h
    · exact ⟨p.2,valV_pos e.1,by rw [← e.1]; exact e⟩
    · obtain ⟨v,e1,e2⟩:=sl_get hr n2 h
      refine ⟨v,?_,e2⟩
      rw [valV_neg (fun z=>n1 ?_)]
      · exact e1
      · rw [e.1] at z
        have:=Sum.inl.inj z
        rw [show q.1=r.1 by omega]
        exact List.mem_map.mpr ⟨r,h,rfl⟩
theorem sl_none {H0 H:Hp} {v:Nat}:∀ {kvs:List (Key × V)} {SL:List (Nat × List Nat)},IsSL H0 H kvs SL→v ∉ SL.map (·.1)→valV kvs (Sum.inl (v:Int))=none
  | _,_,.nil,_=>rfl
  | p :: kvs,q :: SL,.cons e hr,h=>by
    rw [valV_neg (fun z=>h ?_)]
    · exact sl_none hr fun z=>h (List.mem_cons_of_mem _ z)
    · rw [e.1] at z
      have:=Sum.inl.inj z
      rw [List.map_cons]
      exact List.mem_cons.mpr (.inl (by omega))
theorem countP_lt {α:Type} {p q:α→Bool}:∀ {l:List α},(∀ x∈l,p x=true→q x=true)→(∃ x∈l,q x=true∧¬ p x=true)→l.countP p < l.countP q
  | [],_,⟨x,h,_⟩=>nomatch h
  | y :: l,h,⟨x,hx,h1,h2⟩=>by
    rw [List.countP_cons,List.countP_cons]
    have le:l.countP p≤l.countP q:=List.countP_mono_left fun z hz=>h z (List.mem_cons_of_mem _ hz)
    have hy:=h y List.mem_cons_self
    rcases List.mem_cons.mp hx with e | hx
    · subst e
      rw [if_neg h2,if_pos h1]; omega
    · have:=countP_lt (fun z hz=>h z (List.mem_cons_of_mem _ hz)) ⟨x,hx,h1,h2⟩
      by_cases c:p y=true
      · rw [if_pos c,if_pos (hy c)]; omega
      · rw [if_neg c]; split <;> omega
def openN (n:Nat) (SL:List (Nat × List Nat)):Nat:=(List.range n).countP fun v=>decide (v ∉ SL.map (·.1))
theorem open_lt {n:Nat} {SL:List (Nat × List Nat)} {v:Nat} {ks:List Nat} (hv:v < n) (h:v ∉ SL.map (·.1)):openN n (SL ++ [(v,ks)]) < openN n SL:=by
  have hS:(SL ++ [(v,ks)]).map (·.1)=SL.map (·.1) ++ [v]:=by rw [List.map_append]; rfl
  unfold openN
  rw [hS]
  refine countP_lt (fun x _ hx=>?_) ⟨v,List.mem_range.mpr hv,decide_eq_true h,?_⟩
  · exact decide_eq_true fun z=>of_decide_eq_true hx (List.mem_append_left _ z)
  · intro z
    exact of_decide_eq_true z (List.mem_append_right _ (List.mem_singleton.mpr rfl))
theorem one_ne {kd:Kd} {ok:KdOk kd}:(ks kd ok).one≠(ks kd ok).zero:=fun z=>by
  have e:=congrArg (enc kd) z
  rw [← noneW_kno kd ok,← restW_kno kd ok] at e
  cases kd with
  | rests m=>exact absurd (show restW 6=noneW 6 from e) (by decide)
  | _=>exact absurd e (by decide)
def spBW (a:Adr):Sp:=fun vs H Q _=>∃ (np kp tp:Addr) (kd:Kd) (ok:KdOk kd) (n s:Nat) (xs:List V) (es:List (Edge (Car kd))),vs=[.ref np,.int (s:Int)]∧NetIs a H np kd n kp tp xs (es.map (Edge.road kd))∧HasK kd∧Picks (ks kd ok)∧Tops (ks kd ok)∧Graph kd n es∧es.length≤64∧s < n ∧
  ∀ d kvs SL H',Same H H'→H' d=some (.dK kvs)→IsSL H H' kvs SL→(SL.map (·.1)).Nodup→(∀ v,v∈SL.map (·.1) ↔ best (ks kd ok) es s n v≠(ks kd ok).zero)→(∀ p∈SL,∃ st,Way (ks kd ok) es s p.2 p.1 (best (ks kd ok) es s n p.1) st)→Q (.ref d) H'
theorem sc_best_ways:FnScope ["net","start","kind","reached","settled","here","found","number","road"] ["net","start"] (defScope (top 19)):=⟨rfl,rfl,rfl,by decide +kernel,rfl,by decide +kernel,by decide +kernel⟩
theorem d_best_ways (T:Tx K mg a) (V_kind:Mth P w K mg base 1 (fun _:Unit=>a.cNet) "kind" ["self"] (fun _=>spNKind a)) (V_roads:Mth P w K mg base 1 (fun _:Unit=>a.cNet) "roads" ["self"] (fun _=>spNRoads a)) (V_rest:Mth P w K mg base 1 a.cl "rest" ["self"] (fun i=>spOne a i.1)) (V_behind:Mth P w K mg base 35 a.cl "behind" ["self","one","other"] (fun i=>spMul a i.1))
    (D_best_place:Dn P w K mg base 37 "best_place" ["kind","reached"] (spBPl a)) (D_offer:Dn P w K mg base 37 "offer" ["kind","reached","place","worth","way"] (spOffer a)) (F:DefAt K mg "best_ways" (top 19)):Dn P w K mg base 38 "best_ways" ["net","start"] (spBW a):=by
  obtain ⟨f,fd,hm,F⟩:=F.ex
  refine ⟨f,fd,hm,F.kp,F.binds fun _ _ _ _ _ _ us hl=>match us,hl with | [_,_],_=>rfl,?_⟩
  refine F.okN sc_best_ways (fun vs H Q E h=>?_) (fun cdv A outer s H vs Q E hr h=>?_)
  · obtain ⟨_,_,_,_,_,_,_,_,_,rfl,_⟩:=h
    rfl
  · obtain ⟨np,kp,tp,kd,ok,n,st,xs,es,rfl,N,hK,hpk,htp,Gr,h64,hst,q⟩:=h
    refine ⟨_,(pss_cons (ps_set (i:=2) sc_best_ways.nd rfl (Or.inl rfl) (pe_methV0 (pv 0) V_kind (hr.mono (by decide)) passE0))
      (pss_cons (ps_set (i:=3) sc_best_ways.nd rfl (Or.inl rfl) (pe_disp (pps_cons (pv 1) (pe_tup (pa_cons (hs:=st_Call) (pe_methV0 (pv 2) V_rest (hr.mono (by decide)) passE0) (pa_cons (hs:=st_List) (pe_lst pa_nil) pa_nil))) pps_nil) rfl rfl (by simp) (by decide)))
      (pss_cons (ps_set (i:=4) sc_best_ways.nd rfl (Or.inl rfl) pe_dnewK)
      (pss_cons (ps_while PassesOwn.never (pt_cmpR op_gt (pe_callB call_lenD rfl T.b_len bt_len (pa_cons (hs:=st_Name) (pv 3) pa_nil)) pe_int (nomark _)) (pss_cons (ps_set (i:=5) sc_best_ways.nd rfl (Or.inl rfl) (pe_callD D_best_place (hr.mono (by decide)) rfl passE0 (pa_cons (hs:=st_Name) (pv 2) (pa_cons (hs:=st_Name) (pv 3) pa_nil))))
      (pss_cons (ps_set (i:=6) sc_best_ways.nd rfl (Or.inl rfl) (pe_dpop1 (pv 3) (pv 5) ⟨rfl,rfl,rfl,rfl⟩))
      (pss_cons (ps_dput (hr.al 0) (pv 4) (pv 5) (pe_ix ix_tup (pv 6) pe_int (fun _ _=>rfl)) rfl)
      (pss_one (ps_for PassesOwn.never rfl (pi_enum rfl T.b_enumerate (pa_cons (hs:=st_Call) (pe_methV0 (pv 0) V_roads (hr.mono (by decide)) passE0) pa_nil)) (pg_tup rfl (pgs_cons (pg_name (i:=7) sc_best_ways.nd rfl (Or.inl rfl)) (pgs_cons (pg_name (i:=8) sc_best_ways.nd rfl (Or.inl rfl)) pgs_nil))) (pss_one (ps_if (PW.pt (pw_and (pt_cmpR op_eq (pe_ix ix_tup (pv 8) pe_int (fun _ _=>rfl)) (pv 5) (nomark _)) (pw_and1 (pt_cmp (pc_dnotin (hr.al 0) (pe_ix ix_tup (pv 8) pe_int (fun _ _=>rfl)) (pv 4)))))) (pss_one (ps_expr (pe_callD D_offer (hr.mono (by decide)) rfl passE0 (pa_cons (hs:=st_Name) (pv 2) (pa_cons (hs:=st_Name) (pv 3) (pa_cons (hs:=st_Subscript) (pe_ix ix_tup (pv 8) pe_int (fun _ _=>rfl)) (pa_cons (hs:=st_Call) (pe_methV (pv 2) V_behind (hr.mono (by decide)) passE0 (pa_cons (hs:=st_Subscript) (pe_ix ix_tup (pv 6) pe_int (fun _ _=>rfl)) (pa_cons (hs:=st_Subscript) (pe_ix ix_tup (pv 8) pe_int (fun _ _=>rfl)) pa_nil))) (pa_cons (hs:=st_BinOp) (pe_op op_cat (pe_ix ix_tup (pv 6) pe_int (fun _ _=>rfl)) (pe_lst (pa_cons (hs:=st_Name) (pv 7) pa_nil))) pa_nil)))))))) pss_nil))))))))
      (pss_one (ps_ret (pv 4))))))),?_⟩
    obtain ⟨dx,hx⟩:=N.ins
    obtain ⟨kdx,hk⟩:=N.kind
    have hes:=Gr.ends
    have n8:=Gr.nb
    have hxl:xs.length=es.length:=by rw [N.rds.length,List.length_map]
    refine ⟨_,rfl,(),np,dx,_,rfl,hx,rfl,np,kp,tp,kd,n,xs,_,rfl,N,?_⟩
    refine fun dr ndr=>?_
    have u1:=same_one (o:=.dK []) ndr
    have z1:=upd_same (H:=H) (a:=dr) (o:=.dK [])
    generalize upd H dr (.dK [])=H1 at u1 z1
    refine ⟨_,rfl,?_⟩
    refine ⟨_,rfl,⟨kd,hK⟩,kp,kdx,_,rfl,u1 _ _ hk,kfs_no _ (by decide +kernel),kp,ok,rfl,⟨kdx,u1 _ _ hk⟩,fun v1 H2 s2 w2=>?_⟩
    refine ⟨(by show 0≤sizeLine; decide),fun l0 n0=>?_⟩
    have u3:=same_one (o:=.lst []) n0
    refine ⟨(by show 2≤sizeLine; decide),fun t0 nt0=>?_⟩
    have u4:=u3.trans (same_one (o:=.tup [v1,.ref l0]) nt0)
    have zt:=upd_same (H:=upd H2 l0 (.lst [])) (a:=t0) (o:=.tup [v1,.ref l0])
    have zl:(upd (upd H2 l0 (.lst [])) t0 (.tup [v1,.ref l0])) l0=some (.lst (nats [])):=same_one nt0 _ _ upd_same
    have l0n:H l0=none:=same_none (u1.trans s2) n0
    generalize upd (upd H2 l0 (.lst [])) t0 (.tup [v1,.ref l0])=H4 at u4 zt zl
    have d4:=(s2.trans u4) _ _ z1
    refine ⟨d4,[(Sum.inl (st:Int),.ref t0)],rfl,(show 1≤15 by decide),?_⟩
    have z5:(upd H4 dr (.dK (mergeK [] [(Sum.inl (st:Int),V.ref t0)]))) dr=some (.dK [(Sum.inl (st:Int),V.ref t0)]):=upd_same
    have tl5:=tl_dict (o:=.dK (mergeK [] [(Sum.inl (st:Int),V.ref t0)])) d4
    have s5:Same H (upd H4 dr (.dK (mergeK [] [(Sum.inl (st:Int),V.ref t0)]))):=same_upd ((u1.trans s2).trans u4) ndr
    have r5:IsRL H (upd H4 dr (.dK (mergeK [] [(Sum.inl (st:Int),V.ref t0)]))) kd [(Sum.inl (st:Int),V.ref t0)] [(st,(ks kd ok).one,[])] :=
      .cons ⟨rfl,(sm_one kd ok).mono (by decide),t0,v1,l0,rfl,tl5.1 _ _ zt,(w2.same u4).tl tl5,tl5.2 _ _ zl,l0n⟩ .nil
    generalize upd H4 dr (.dK (mergeK [] [(Sum.inl (st:Int),V.ref t0)]))=H5 at z5 tl5 s5 r5
    dsimp only [gName]
    refine fun ds nds=>?_
    have u6:=same_one (o:=.dK []) nds
    have z6:=upd_same (H:=H5) (a:=ds) (o:=.dK [])
    have dsr:ds≠dr:=fun z=>by rw [z,z5] at nds; cases nds
    have ndsH:H ds=none:=same_none s5 nds
    have s6:=s5.trans u6
    have r6:=r5.tl (Same.tl u6)
    have z56:=u6 _ _ z5
    generalize upd H5 ds (.dK [])=H6 at u6 z6 s6 r6 z56
    have I0:DInv (ks kd ok) es st n (fun _=>True) [] [(st,(ks kd ok).one,[])]:=by
      refine ⟨by simp,(fun r _ z=>by cases z),(fun r hr'=>by rw [List.mem_singleton.mp hr']; exact hst),(fun r hr'=>?_),(fun r hr'=>?_),List.nodup_nil,(fun p hp=>nomatch hp),(fun p hp=>nomatch hp),(fun e he _ h1=>by cases h1),.inr ⟨rfl,rfl⟩⟩
      · rw [List.mem_singleton.mp hr']; exact one_ne
      · rw [List.mem_singleton.mp hr']
        exact ⟨[st],.nil,fun y hy=>.inl (List.mem_singleton.mp hy)⟩
    dsimp only [gName]
    refine ⟨fun m σ H'=>∃ (kr kv:List (Key × V)) (RL:List (RE (Car kd))) (SL:List (Nat × List Nat)) (o5 o6 o7 o8:Option V),σ=[some (.ref np),some (.int (st:Int)),some (.ref kp),some (.ref dr),some (.ref ds),o5,o6,o7,o8]∧Same H H'∧H' dr=some (.dK kr)∧H' ds=some (.dK kv)∧IsRL H H' kd kr RL∧IsSL H H' kv SL∧DInv (ks kd ok) es st n (fun _=>True) SL RL∧m=openN n SL,
      ⟨_,_,_,_,[],_,_,_,_,rfl,s6,z56,z6,r6,.nil,I0,rfl⟩,?_⟩
    rintro m σ H7 ⟨kr,kv,RL,SL,o5,o6,o7,o8,rfl,s7,hdr,hds,rl7,sl7,I7,rfl⟩
    have rlen:RL.length≤8:=by
      have:=nd_len I7.rnd (n:=n) (fun x hx=>by obtain ⟨r,hr',rfl⟩:=List.mem_map.mp hx; exact I7.rlt r hr')
      rw [List.length_map] at this; omega
    have kl:kr.length=RL.length:=Paired.length rl7
    refine ⟨_,rfl,dr,kr,rfl,hdr,_,_,rfl,rfl,_,rfl,iteD (fun c=>?_) (fun c=>?_)⟩
    · refine ⟨fun σ' H'=>_,fun _ _ z=>z,?_⟩
      have rne:RL≠[]:=fun z=>by rw [kl,z] at c; simp at c
      refine ⟨_,rfl,_,rfl,kp,dr,kd,ok,kr,RL,H,rfl,⟨kdx,s7 _ _ hk⟩,hK,hpk,htp,hdr,rl7,I7.rnd,rne,fun r H8 s8 hr' hmax=>?_⟩
      have hb:=I7.isBest hes hst htp hr' hmax
      have I8:=I7.settle hes hst htp hr' hmax
      have rlt:=I7.rlt r hr'
      have rS:=I7.rS r hr'
      have dr8:=s8 _ _ hdr
      have rl8:=rl7.tl (Same.tl s8)
      obtain ⟨va,ea,_,sa,ta,wa,la,rfl,a1,a2,a3,a4⟩:=rl_get rl8 I7.rnd hr'
      dsimp only [gName]
      refine ⟨_,rfl,dr,rfl,.inl ⟨kr,.inl dr8⟩,_,rfl,kr,Sum.inl (r.1:Int),.ref ta,dr8,rfl,ea,?_⟩
      have z9:=upd_same (H:=H8) (a:=dr) (o:=.dK (dropK kr (Sum.inl (r.1:Int))))
      have b9:SameBut dr H8 (upd H8 dr (.dK (dropK kr (Sum.inl (r.1:Int))))):=fun p u hp e=>by rw [upd_ne hp]; exact e
      have tl9:=tl_dict (o:=.dK (dropK kr (Sum.inl (r.1:Int)))) dr8
      have s9:Same H (upd H8 dr (.dK (dropK kr (Sum.inl (r.1:Int))))):=same_upd (s7.trans s8) ndr
      generalize upd H8 dr (.dK (dropK kr (Sum.inl (r.1:Int))))=H9 at z9 b9 tl9 s9
      have ds9:=b9 _ _ dsr (s8 _ _ hds)
      have rl9:=(rl_drop (v:=r.1) rl8).tl tl9
      have sl9:=(sl7.tl (Same.tl s8)).tl tl9
      have a19:=tl9.1 _ _ a1
      have a29:=a2.tl tl9
      have a39:=tl9.2 _ _ a3
      have slen:SL.length≤8:=by
        have:=nd_len I7.snd (n:=n) (fun x hx=>by obtain ⟨p,hp,rfl⟩:=List.mem_map.mp hx; exact I7.slt p hp)
        rw [List.length_map] at this; omega
      have kvl:kv.length=SL.length:=Paired.length sl7
      dsimp only [gName]
      refine ⟨_,rfl,ta,_,_,_,rfl,rfl,SqT.of a19,rfl,_,rfl,_,rfl,ds,_,rfl,DPut.k (k:=Sum.inl (r.1:Int)) ds9 (lines (by omega)),?_⟩
      rw [putK_new (.ref la) (sl_none sl9 rS)]
      have zA:=upd_same (H:=H9) (a:=ds) (o:=.dK (kv ++ [(Sum.inl (r.1:Int),V.ref la)]))
      have bA:SameBut ds H9 (upd H9 ds (.dK (kv ++ [(Sum.inl (r.1:Int),V.ref la)]))):=fun p u hp e=>by rw [upd_ne hp]; exact e
      have tlA:=tl_dict (o:=.dK (kv ++ [(Sum.inl (r.1:Int),V.ref la)])) ds9
      have sA:Same H (upd H9 ds (.dK (kv ++ [(Sum.inl (r.1:Int),V.ref la)]))):=same_upd s9 ndsH
      generalize upd H9 ds (.dK (kv ++ [(Sum.inl (r.1:Int),V.ref la)]))=HA at zA bA tlA sA
      have drA:=bA _ _ (Ne.symm dsr) z9
      have rlA:=rl9.tl tlA
      have a1A:=tlA.1 _ _ a19
      have a2A:=a29.tl tlA
      have a3A:=tlA.2 _ _ a39
      have slA:IsSL H HA (kv ++ [(Sum.inl (r.1:Int),V.ref la)]) (SL ++ [(r.1,r.2.2)]):=Paired.snoc (sl9.tl tlA) ⟨rfl,la,rfl,a3A,a4⟩
      have hS:(SL ++ [(r.1,r.2.2)]).map (·.1)=SL.map (·.1) ++ [r.1]:=by rw [List.map_append]; rfl
      have op:=open_lt (ks:=r.2.2) rlt rS
      obtain ⟨stp,wayr,stS⟩:=(I8.sway (r.1,r.2.2) (List.mem_append_right _ (List.mem_singleton.mpr rfl))).1
      have wayr:Way (ks kd ok) es st r.2.2 r.1 (best (ks kd ok) es st n r.1) stp:=wayr
      have sne:SL ++ [(r.1,r.2.2)]≠[]:=by simp
      have rin:r.1∈(SL ++ [(r.1,r.2.2)]).map (·.1):=by rw [hS]; exact List.mem_append_right _ (List.mem_singleton.mpr rfl)
      generalize SL ++ [(r.1,r.2.2)]=SL' at I8 slA op stS sne rin
      generalize RL.filter (fun r'=>decide (r'.1≠r.1))=RL' at I8 rlA
      generalize kv ++ [(Sum.inl (r.1:Int),V.ref la)]=kv' at zA slA
      generalize dropK kr (Sum.inl (r.1:Int))=kr' at drA rlA
      clear tlA bA tl9 b9 a19 a29 a39 sl9 rl9 ds9 z9 s9 a1 a2 a3 rl8 dr8 hS ea
      dsimp only [gName]
      refine ⟨_,rfl,(),np,dx,_,rfl,sA _ _ hx,rfl,np,kp,tp,kd,n,xs,_,rfl,N.same sA,fun lx nlx=>?_⟩
      have uB:=same_one (o:=.lst xs) nlx
      have zx:=upd_same (H:=HA) (a:=lx) (o:=.lst xs)
      have drB:=uB _ _ drA
      have dsB:=uB _ _ zA
      have rlB:=rlA.tl (Same.tl uB)
      have slB:=slA.tl (Same.tl uB)
      have a1B:=uB _ _ a1A
      have a2B:=a2A.same uB
      have a3B:=uB _ _ a3A
      have sB:=sA.trans uB
      have nlxH:H lx=none:=same_none sA nlx
      generalize upd HA lx (.lst xs)=HB at uB zx drB dsB rlB slB a1B a2B a3B sB
      refine ⟨lx,rfl,⟨xs,SqL.of zx⟩,for_enum (xs:=xs) (fun j σ H'=>∃ (kr:List (Key × V)) (RL:List (RE (Car kd))) (o7 o8:Option V),σ=[some (.ref np),some (.int (st:Int)),some (.ref kp),some (.ref dr),some (.ref ds),some (.int (r.1:Int)),some (.ref ta),o7,o8]∧Same H H'∧H' lx=some (.lst xs)∧H' dr=some (.dK kr)∧H' ds=some (.dK kv')∧IsRL H H' kd kr RL∧IsSL H H' kv' SL'∧H' ta=some (.tup [wa,.ref la])∧IsW H' wa (enc kd r.2.1)∧H' la=some (.lst (nats r.2.2))∧DInv (ks kd ok) es st n (fun e=>e.f≠r.1∨e∈es.take j) SL' RL)
        ⟨kr',RL',_,_,rfl,sB,zx,drB,dsB,rlB,slB,a1B,a2B,a3B,I8.more fun e _ hf hn=>absurd (hf.resolve_right (fun z=>by rw [List.take_zero] at z; cases z)) hn⟩ (fun j σ H' _ ⟨_,_,_,_,_,_,h,_⟩=>SqL.of h) ?_ ?_⟩
      · rintro j x σ HC p1 ex ⟨krC,RLC,o7,o8,rfl,sC,zxC,drC,dsC,rlC,slC,a1C,a2C,a3C,IC⟩ np1
        have hj:j < es.length:=by have:=(List.getElem?_eq_some_iff.mp ex).1; omega
        have ee:es[j]?=some es[j]:=List.getElem?_eq_getElem hj
        obtain ⟨rd,er,pr,wr,rfl,f2,f3⟩:=pget N.rds ex
        rw [List.getElem?_map,ee] at er
        obtain rfl:Edge.road kd es[j]=rd:=Option.some.inj er
        have em:es[j]∈es:=List.getElem_mem hj
        have et:es.take (j + 1)=es.take j ++ [es[j]]:=(List.take_append_getElem hj).symm
        obtain ⟨g1,g2⟩:=hes es[j] em
        have sme:=Gr.sm es[j] em
        generalize es[j]=e at ee f2 f3 em et g1 g2 sme
        have uD:=same_one (o:=.tup [.int (j:Nat),.ref pr]) np1
        refine ⟨p1,_,rfl,SqT.of upd_same,rfl,_,_,rfl,_,_,rfl,rfl,?_⟩
        have sD:=sC.trans uD
        have zxD:=uD _ _ zxC
        have drD:=uD _ _ drC
        have dsD:=uD _ _ dsC
        have rlD:=rlC.tl (Same.tl uD)
        have slD:=slC.tl (Same.tl uD)
        have a1D:=uD _ _ a1C
        have a2D:=a2C.same uD
        have a3D:=uD _ _ a3C
        generalize upd HC p1 (.tup [.int (j:Nat),.ref pr])=HD at uD sD zxD drD dsD rlD slD a1D a2D a3D
        clear uD sC zxC drC dsC rlC slC a1C a2C a3C np1
        dsimp only [gName]
        have t7:=sD _ _ f2
        have new:∀ e'∈es,(e'.f≠r.1∨e'∈es.take (j + 1))→¬ (e'.f≠r.1∨e'∈es.take j)→e'=e∧e.f=r.1:=fun e' _ h1 h2=>by
          have hf:e'.f=r.1:=Classical.byContradiction fun z=>h2 (.inl z)
          have hm:=h1.resolve_left (fun z=>z hf)
          rw [et] at hm
          rcases List.mem_append.mp hm with hm | hm
          · exact absurd (.inr hm) h2
          · have:=List.mem_singleton.mp hm
            exact ⟨this,by rw [← this]; exact hf⟩
        have keep:DInv (ks kd ok) es st n (fun e=>e.f≠r.1∨e∈es.take (j + 1)) SL' RLC→∀ H',Same HD H'→∃ (kr:List (Key × V)) (RL:List (RE (Car kd))) (o7 o8:Option V),([some (.ref np),some (.int (st:Int)),some (.ref kp),some (.ref dr),some (.ref ds),some (.int (r.1:Int)),some (.ref ta),some (.int (j:Nat)),some (.ref pr)]:L2.St)=[some (.ref np),some (.int (st:Int)),some (.ref kp),some (.ref dr),some (.ref ds),some (.int (r.1:Int)),some (.ref ta),o7,o8]∧Same H H'∧H' lx=some (.lst xs)∧H' dr=some (.dK kr)∧H' ds=some (.dK kv')∧IsRL H H' kd kr RL∧IsSL H H' kv' SL'∧H' ta=some (.tup [wa,.ref la])∧IsW H' wa (enc kd r.2.1)∧H' la=some (.lst (nats r.2.2))∧DInv (ks kd ok) es st n (fun e=>e.f≠r.1∨e∈es.take (j + 1)) SL' RL:=fun I' H' s' =>
          ⟨krC,RLC,_,_,rfl,sD.trans s',s' _ _ zxD,s' _ _ drD,s' _ _ dsD,rlD.tl (Same.tl s'),slD.tl (Same.tl s'),s' _ _ a1D,a2D.same s',s' _ _ a3D,I'⟩
        refine ⟨_,rfl,pr,_,_,_,rfl,rfl,SqT.of t7,rfl,_,rfl,rfl,_,rfl,iteEqI (fun c1=>?_) (fun c1=>iteF (keep (IC.more fun e' he' h1 h2 _ _ _=>absurd (new e' he' h1 h2).2 (fun z=>c1 (congrArg Int.ofNat z))) HD (Same.refl HD)))⟩
        have ef:e.f=r.1:=Int.ofNat.inj c1
        by_cases ct:e.t∈SL'.map (·.1)
        · obtain ⟨pS,hpS,ptS⟩:=List.mem_map.mp ct
          obtain ⟨vs,evs,_⟩:=sl_get slD IC.snd hpS
          rw [ptS] at evs
          have gs:DGet HD ds (.int (e.t:Int)) (some vs):=evs ▸ DGet.k (k:=Sum.inl (e.t:Int)) dsD
          refine ⟨_,rfl,pr,_,_,_,rfl,rfl,SqT.of t7,rfl,_,rfl,ds,_,rfl,gs,_,rfl,iteF ?_⟩
          exact keep (IC.more fun e' he' h1 h2 _ h4 _=>absurd (by rw [(new e' he' h1 h2).1]; exact ct) h4) HD (Same.refl HD)
        · have gs:DGet HD ds (.int (e.t:Int)) none:=(sl_none slD ct) ▸ DGet.k (k:=Sum.inl (e.t:Int)) dsD
          refine ⟨_,rfl,pr,_,_,_,rfl,rfl,SqT.of t7,rfl,_,rfl,ds,_,rfl,gs,_,rfl,iteT ?_⟩
          refine ⟨_,rfl,_,rfl,_,rfl,pr,_,_,_,rfl,rfl,SqT.of t7,rfl,?_⟩
          refine ⟨_,rfl,⟨kd,hK⟩,kp,kdx,_,rfl,sD _ _ hk,kfs_no _ (by decide +kernel),_,rfl,ta,_,_,_,rfl,rfl,SqT.of a1D,rfl,_,rfl,pr,_,_,_,rfl,rfl,SqT.of t7,rfl,?_⟩
          refine ⟨kp,wa,wr,ok,r.2.1,e.c,rfl,⟨kdx,sD _ _ hk⟩,a2D,f3.same sD,sa.mono (by decide),sme.mono (by decide),fun vm HE sE wE=>?_⟩
          refine ⟨_,rfl,ta,_,_,_,rfl,rfl,SqT.of (sE _ _ a1D),rfl,_,rfl,(by show 1≤sizeLine; decide),fun l1 nl1=>?_⟩
          have uF:=same_one (o:=.lst [.int (j:Int)]) nl1
          have shr:=wayr.short hes hst
          refine ⟨la,l1,_,_,rfl,rfl,uF _ _ (sE _ _ a3D),upd_same,Nat.le_of_lt (lines (by rw [nats_len]; show r.2.2.length + 1≤1000; omega)),fun l2 nl2=>?_⟩
          have uG:=uF.trans (same_one (o:=.lst (nats r.2.2 ++ [.int (j:Int)])) nl2)
          have zG:(upd (upd HE l1 (.lst [.int (j:Int)])) l2 (.lst (nats r.2.2 ++ [.int (j:Int)]))) l2=some (.lst (nats (r.2.2 ++ [j]))):=by
            rw [upd_same]; unfold nats; rw [List.map_append]; rfl
          have l2n:H l2=none:=same_none ((sD.trans sE).trans uF) nl2
          generalize upd (upd HE l1 (.lst [.int (j:Int)])) l2 (.lst (nats r.2.2 ++ [.int (j:Int)]))=HG at uG zG
          have sDG:=sE.trans uG
          have eb:(ks kd ok).mul r.2.1 e.c=(ks kd ok).mul (best (ks kd ok) es st n e.f) e.c:=by rw [ef,hb]
          have etst:e.t ∉ stp:=fun z=>ct (stS _ z)
          have wnew:Way (ks kd ok) es st (r.2.2 ++ [j]) e.t ((ks kd ok).mul (best (ks kd ok) es st n r.1) e.c) (stp ++ [e.t]):=.snoc wayr ee ef etst
          have smn:Sm BR (enc kd ((ks kd ok).mul r.2.1 e.c)):=by
            have:=wnew.sm Gr.sm
            rw [← hb]
            exact this.mono (by rw [List.length_append,List.length_singleton]; show 212 * (r.2.2.length + 1) + 40≤60000; omega)
          have rlenC:RLC.length≤100:=by
            have:=nd_len IC.rnd (n:=n) (fun x hx=>by obtain ⟨r,hr',rfl⟩:=List.mem_map.mp hx; exact IC.rlt r hr')
            rw [List.length_map] at this; omega
          refine ⟨kp,dr,l2,vm,kd,ok,e.t,(ks kd ok).mul r.2.1 e.c,r.2.2 ++ [j],krC,RLC,H,rfl,⟨kdx,(sD.trans sDG) _ _ hk⟩,hK,hpk,sDG _ _ drD,rlD.tl (Same.tl sDG),IC.rnd,rlenC,wE.same uG,smn,zG,l2n,fun xz H' s'=>?_,fun xz hex H' s'=>?_,fun xz hall kr'' H' b' hdr' rl'=>?_⟩
          · exact keep (IC.more fun e' he' h1 h2 _ _ h5=>absurd (by rw [(new e' he' h1 h2).1,← eb]; exact xz) h5) H' (sDG.trans s')
          · refine keep (IC.more fun e' he' h1 h2 _ _ h5=>?_) H' (sDG.trans s')
            obtain ⟨r',hr2,rt,le⟩:=hex
            rw [(new e' he' h1 h2).1]
            exact ⟨r',hr2,rt,by rw [← eb]; exact le⟩
          · have sH':Same H H':=fun p u ep=>b' p u (fun z=>by rw [z,ndr] at ep; cases ep) ((sD.trans sDG) p u ep)
            have nn:∀ {p:Addr} {u:HO},HG p=some u→(∀ kvs,u≠.dK kvs)→H' p=some u:=fun {p u} ep hu=>b' p u (fun z=>by rw [z,sDG _ _ drD] at ep; exact hu _ (Option.some.inj ep).symm) ep
            have tlH:KeepTL HG H':=⟨fun p ys ep=>nn ep (fun _ z=>nomatch z),fun p ys ep=>nn ep (fun _ z=>nomatch z)⟩
            refine ⟨kr'',putR RLC (e.t,(ks kd ok).mul r.2.1 e.c,r.2.2 ++ [j]),_,_,rfl,sH',tlH.2 _ _ (sDG _ _ zxD),hdr',b' _ _ dsr (sDG _ _ dsD),rl',(slD.tl (Same.tl sDG)).tl tlH,tlH.1 _ _ (sDG _ _ a1D),(a2D.same sDG).tl tlH,tlH.2 _ _ (sDG _ _ a3D),?_⟩
            refine IC.put (r:=(e.t,(ks kd ok).mul r.2.1 e.c,r.2.2 ++ [j])) ct g2 xz ⟨stp ++ [e.t],by rw [← hb]; exact wnew,fun y hy=>?_⟩ hall sne (fun e' he' h1 h2 _ _ _=>?_)
            · rcases List.mem_append.mp hy with hy | hy
              · exact .inr (stS y hy)
              · exact .inl (List.mem_singleton.mp hy)
            · refine ⟨_,mem_put _,by rw [(new e' he' h1 h2).1],?_⟩
              rw [(new e' he' h1 h2).1,← eb]
              exact le_refl _ _
      · rintro σ HC ⟨krC,RLC,o7,o8,rfl,sC,zxC,drC,dsC,rlC,slC,a1C,a2C,a3C,IC⟩
        rw [hxl,List.take_length] at IC
        exact ⟨openN n SL',op,krC,kv',RLC,SL',_,_,_,_,rfl,sC,drC,dsC,rlC,slC,IC.more (fun e he _ hn=>absurd (.inr he) hn),rfl⟩
    · have rz:RL=[]:=by
        have:RL.length=0:=by
          have c:¬ ((kr.length:Int) > 0):=c
          omega
        exact List.length_eq_zero_iff.mp this
      subst rz
      refine ⟨_,rfl,q ds kv SL H7 s7 hds sl7 I7.snd (fun v=>I7.done hes hst htp) (fun p hp=>?_)⟩
      obtain ⟨⟨stp,wy,_⟩,_⟩:=I7.sway p hp
      exact ⟨stp,wy⟩
end
end K14
namespace K14
open PySem L2 Ws
seal PE PT PW PA PC PS PSs PG PGs PI PO PJ PTs
section
variable {P : Program} {w : World} {K : PySem.W.Frag} {mg : Str → Option Value} {base : Heap} {a : Adr}
def picksK:Kd→Bool
  | .fewest | .widest | .likeliest=>true
  | _=>false
def spPicks (a:Adr) (kd:Kd):Sp:=fun vs H Q _=>∃ p:Addr,vs=[.ref p]∧Q (.bl (picksK kd)) H
theorem len_picks {kd:Kd} {vs:List V} {H:Hp} {Q:VK} {E:XK} (h:spPicks a kd vs H Q E):vs.length=1:=by
  obtain ⟨_,rfl,_⟩:=h
  rfl
theorem sc_Fewest_picks:FnScope ["self"] ["self"] (defScope (inClass (top 37) 5)):=⟨rfl,rfl,rfl,by decide +kernel,rfl,by decide +kernel,by decide +kernel⟩
theorem sc_Widest_picks:FnScope ["self"] ["self"] (defScope (inClass (top 38) 5)):=⟨rfl,rfl,rfl,by decide +kernel,rfl,by decide +kernel,by decide +kernel⟩
theorem sc_Kind_picks:FnScope ["self"] ["self"] (defScope (inClass (top 36) 6)):=⟨rfl,rfl,rfl,by decide +kernel,rfl,by decide +kernel,by decide +kernel⟩
theorem sc_Likeliest_picks:FnScope ["self"] ["self"] (defScope (inClass (top 40) 5)):=⟨rfl,rfl,rfl,by decide +kernel,rfl,by decide +kernel,by decide +kernel⟩
structure At_picks (K:PySem.W.Frag) (a:Adr):Prop where
  fFewest:MthAt K a.cFewest "picks" "Fewest.picks" (inClass (top 37) 5)
  fWidest:MthAt K a.cWidest "picks" "Widest.picks" (inClass (top 38) 5)
  fCounted:MthAt K a.cCounted "picks" "Kind.picks" (inClass (top 36) 6)
  fLikeliest:MthAt K a.cLikeliest "picks" "Likeliest.picks" (inClass (top 40) 5)
  fChances:MthAt K a.cChances "picks" "Kind.picks" (inClass (top 36) 6)
  fMusts:MthAt K a.cMusts "picks" "Kind.picks" (inClass (top 36) 6)
  fRests:MthAt K a.cRests "picks" "Kind.picks" (inClass (top 36) 6)
theorem v_picks (T:Tx K mg a) (F:At_picks K a):Mth P w K mg base 1 a.cl "picks" ["self"] (fun i=>spPicks a i.1):=by
  refine ⟨fun ⟨kd,hk⟩=>?_⟩
  cases kd with
  | fewest =>
    refine m_of hk T F.fFewest (fun _ _ _ _ _ _ us hl=>match us,hl with | [_],_=>rfl) fun f fd F=>F.okN sc_Fewest_picks (fun _ _ _ _=>len_picks) (fun cdv A outer s H vs Q E hr h=>?_)
    obtain ⟨p,rfl,q⟩:=h
    exact ⟨_,(pss_one (ps_ret pe_bl)),q⟩
  | widest =>
    refine m_of hk T F.fWidest (fun _ _ _ _ _ _ us hl=>match us,hl with | [_],_=>rfl) fun f fd F=>F.okN sc_Widest_picks (fun _ _ _ _=>len_picks) (fun cdv A outer s H vs Q E hr h=>?_)
    obtain ⟨p,rfl,q⟩:=h
    exact ⟨_,(pss_one (ps_ret pe_bl)),q⟩
  | counted =>
    refine m_of hk T F.fCounted (fun _ _ _ _ _ _ us hl=>match us,hl with | [_],_=>rfl) fun f fd F=>F.okN sc_Kind_picks (fun _ _ _ _=>len_picks) (fun cdv A outer s H vs Q E hr h=>?_)
    obtain ⟨p,rfl,q⟩:=h
    exact ⟨_,(pss_one (ps_ret pe_bl)),q⟩
  | likeliest =>
    refine m_of hk T F.fLikeliest (fun _ _ _ _ _ _ us hl=>match us,hl with | [_],_=>rfl) fun f fd F=>F.okN sc_Likeliest_picks (fun _ _ _ _=>len_picks) (fun cdv A outer s H vs Q E hr h=>?_)
    obtain ⟨p,rfl,q⟩:=h
    exact ⟨_,(pss_one (ps_ret pe_bl)),q⟩
  | chances =>
    refine m_of hk T F.fChances (fun _ _ _ _ _ _ us hl=>match us,hl with | [_],_=>rfl) fun f fd F=>F.okN sc_Kind_picks (fun _ _ _ _=>len_picks) (fun cdv A outer s H vs Q E hr h=>?_)
    obtain ⟨p,rfl,q⟩:=h
    exact ⟨_,(pss_one (ps_ret pe_bl)),q⟩
  | musts =>
    refine m_of hk T F.fMusts (fun _ _ _ _ _ _ us hl=>match us,hl with | [_],_=>rfl) fun f fd F=>F.okN sc_Kind_picks (fun _ _ _ _=>len_picks) (fun cdv A outer s H vs Q E hr h=>?_)
    obtain ⟨p,rfl,q⟩:=h
    exact ⟨_,(pss_one (ps_ret pe_bl)),q⟩
  | rests m =>
    refine m_of (kd:=.rests m) hk T F.fRests (fun _ _ _ _ _ _ us hl=>match us,hl with | [_],_=>rfl) fun f fd F=>F.okN sc_Kind_picks (fun _ _ _ _=>len_picks) (fun cdv A outer s H vs Q E hr h=>?_)
    obtain ⟨p,rfl,q⟩:=h
    exact ⟨_,(pss_one (ps_ret pe_bl)),q⟩
end
end K14
namespace K14
open PySem L2 Ws
seal PE PT PW PA PC PS PSs PG PGs PI PO PJ PTs
section
variable {P : Program} {w : World} {K : PySem.W.Frag} {mg : Str → Option Value} {base : Heap} {a : Adr}
def spWF (a:Adr):Sp:=fun vs H Q E=>∃ (np kp tp:Addr) (kd:Kd) (ok:KdOk kd) (n:Nat) (p o:Int) (xs:List V) (es:List (Edge (Car kd))),vs=[.ref np,.int p,.int o]∧NetIs a H np kd n kp tp xs (es.map (Edge.road kd))∧HasK kd∧Graph kd n es∧es.length≤64∧p.natAbs < 10 ^ 62∧o.natAbs < 10 ^ 62 ∧
  (¬ ((0≤p∧p < n)∧0≤o∧o < n)→E (.ref a.cNoPlace) none H) ∧
  ((0≤p∧p < n)∧0≤o∧o < n→picksK kd=false→E (.ref a.cNoPick) none H) ∧
  ((0≤p∧p < n)∧0≤o∧o < n→picksK kd=true→best (ks kd ok) es p.toNat n o.toNat=(ks kd ok).zero→∀ H',Same H H'→E (.ref a.cNoWay) none H') ∧
  ((0≤p∧p < n)∧0≤o∧o < n→picksK kd=true→best (ks kd ok) es p.toNat n o.toNat≠(ks kd ok).zero→∀ l kz st H',Same H H'→H l=none→H' l=some (.lst (nats kz))→Way (ks kd ok) es p.toNat kz o.toNat (best (ks kd ok) es p.toNat n o.toNat) st→Q (.ref l) H')
theorem kno_picks {kd:Kd} (h:picksK kd=true):kno kd=0∨kno kd=1∨kno kd=3:=by
  cases kd with
  | fewest=>exact .inl rfl
  | widest=>exact .inr (.inl rfl)
  | likeliest=>exact .inr (.inr rfl)
  | _=>cases h
theorem sc_way_for:FnScope ["net","place","other","ways"] ["net","place","other"] (defScope (top 18)):=⟨rfl,rfl,rfl,by decide +kernel,rfl,by decide +kernel,by decide +kernel⟩
theorem d_way_for (T:Tx K mg a) (D_check_place:Dn P w K mg base 2 "check_place" ["net","place"] (spPlace a)) (V_kind:Mth P w K mg base 1 (fun _:Unit=>a.cNet) "kind" ["self"] (fun _=>spNKind a)) (V_picks:Mth P w K mg base 1 a.cl "picks" ["self"] (fun i=>spPicks a i.1)) (D_best_ways:Dn P w K mg base 38 "best_ways" ["net","start"] (spBW a)) (F:DefAt K mg "way_for" (top 18)):Dn P w K mg base 39 "way_for" ["net","place","other"] (spWF a):=by
  obtain ⟨f,fd,hm,F⟩:=F.ex
  refine ⟨f,fd,hm,F.kp,F.binds fun _ _ _ _ _ _ us hl=>match us,hl with | [_,_,_],_=>rfl,?_⟩
  refine F.okX sc_way_for (fun vs H Q E h=>?_) (fun cdv A outer s H vs Q E hr h=>?_)
  · obtain ⟨_,_,_,_,_,_,_,_,_,_,rfl,_⟩:=h
    rfl
  · obtain ⟨np,kp,tp,kd,ok,n,p,o,xs,es,rfl,N,hK,Gr,h64,hp,ho,e1,e2,e3,q⟩:=h
    refine ⟨_,(pss_cons (ps_expr (pe_callD D_check_place (hr.mono (by decide)) rfl pass_cx (pa_cons (hs:=st_Name) (pv 0) (pa_cons (hs:=st_Name) (pv 1) pa_nil))))
      (pss_cons (ps_expr (pe_callD D_check_place (hr.mono (by decide)) rfl pass_cx (pa_cons (hs:=st_Name) (pv 0) (pa_cons (hs:=st_Name) (pv 2) pa_nil))))
      (pss_cons (ps_if (pt_not (pt_val (pe_methV0 (pe_methV0 (pv 0) V_kind (hr.mono (by decide)) pass_cx) V_picks (hr.mono (by decide)) pass_cx) (fun _=>rfl))) (pss_one (ps_raise T.x_NoPick rfl rfl rais_cx (pa_cons (hs:=st_Constant) pe_str pa_nil))) pss_nil)
      (pss_cons (ps_set (i:=3) sc_way_for.nd rfl (Or.inl rfl) (pe_callD D_best_ways (hr.mono (by decide)) rfl pass_cx (pa_cons (hs:=st_Name) (pv 0) (pa_cons (hs:=st_Name) (pv 1) pa_nil))))
      (pss_cons (ps_if (pt_cmp (pc_dnotin (hr.al 0) (pv 2) (pv 3))) (pss_one (ps_raise T.x_NoWay rfl rfl rais_cx (pa_cons (hs:=st_JoinedStr) (pe_fstrN (pj_str (pj_int (pv 1) (pj_str (pj_int (pv 2) pj_nil))))) pa_nil))) pss_nil)
      (pss_one (ps_ret (pe_dget (hr.al 0) (pv 3) (pv 2) (fun _ _=>rfl))))))))),?_⟩
    have hs1:(Str.ofString "no way leads from place ").length≤1000:=by decide +kernel
    have hs2:(Str.ofString " to place ").length≤1000:=by decide +kernel
    obtain ⟨dx,hx⟩:=N.ins
    obtain ⟨kdx,hk⟩:=N.kind
    refine ⟨_,rfl,_,rfl,np,p,kd,n,kp,tp,xs,_,rfl,N,hp,fun hin=>?_,fun z=>e1 fun y=>z y.1⟩
    refine ⟨_,rfl,_,rfl,np,o,kd,n,kp,tp,xs,_,rfl,N,ho,fun hon=>?_,fun z=>e1 fun y=>z y.2⟩
    have both:(0≤p∧p < n)∧0≤o∧o < n:=⟨hin,hon⟩
    refine ⟨_,rfl,(),np,dx,_,rfl,hx,rfl,np,kp,tp,kd,n,xs,_,rfl,N,⟨kd,hK⟩,kp,kdx,_,rfl,hk,kfs_no _ (by decide +kernel),kp,rfl,?_⟩
    cases hb:picksK kd with
    | false=>exact ⟨_,rfl,iteT ⟨by show 1≤sizeLine; decide,e2 both hb⟩⟩
    | true =>
      have hpk:Picks (ks kd ok):=picks_kd (kno_picks hb)
      have htp:Tops (ks kd ok):=tops_kd (by have:=kno_picks hb; omega)
      obtain ⟨p0,rfl⟩:∃ p0:Nat,p=p0:=⟨p.toNat,by omega⟩
      obtain ⟨o0,rfl⟩:∃ o0:Nat,o=o0:=⟨o.toNat,by omega⟩
      rw [Int.toNat_natCast,Int.toNat_natCast] at e3 q
      refine ⟨_,rfl,iteF ⟨_,rfl,_,rfl,np,kp,tp,kd,ok,n,p0,xs,es,rfl,N,hK,hpk,htp,Gr,h64,by omega,fun d kvs SL H' s' hd sl nd mem ways=>?_⟩⟩
      by_cases c:best (ks kd ok) es p0 n o0=(ks kd ok).zero
      · have gs:DGet H' d (.int (o0:Int)) none:=(sl_none sl (fun z=>(mem o0).mp z c)) ▸ DGet.k (k:=Sum.inl (o0:Int)) hd
        refine ⟨_,rfl,_,rfl,d,_,rfl,gs,_,rfl,iteT ?_⟩
        exact ⟨hs1,_,rfl,_,rfl,log2_small hp,hs2,_,rfl,_,rfl,log2_small ho,fun z=>⟨by show 1≤sizeLine; decide,e3 both hb c H' s'⟩⟩
      · obtain ⟨pS,hpS,ptS⟩:=List.mem_map.mp ((mem o0).mpr c)
        obtain ⟨vs,evs,_,lw,e4,e5,e6⟩:=sl_get sl nd hpS
        obtain ⟨st,wy⟩:=ways pS hpS
        rw [ptS] at evs wy
        have gs:DGet H' d (.int (o0:Int)) (some vs):=evs ▸ DGet.k (k:=Sum.inl (o0:Int)) hd
        refine ⟨_,rfl,_,rfl,d,_,rfl,gs,_,rfl,iteF ?_⟩
        refine ⟨_,rfl,_,rfl,d,_,rfl,gs,?_⟩
        rw [show vs=.ref lw from e4]
        exact q both hb c lw pS.2 st H' s' e6 e5 wy
end
end K14
namespace K14
open PySem L2 Ws
seal PE PT PW PA PC PS PSs PG PGs PI PO PJ PTs
section
variable {P : Program} {w : World} {K : PySem.W.Frag} {mg : Str → Option Value} {base : Heap} {a : Adr}
section
variable {S : Type} {M : KSR S} {es : List (Edge S)} {s : Nat}
theorem nats_flat (l:List Nat):(nats l).all flatV=true:=by
  unfold nats
  rw [List.all_map]
  exact List.all_eq_true.mpr fun _ _=>rfl
theorem inV_nats (t:Nat) (S:List Nat):inV (.int (t:Int)) (nats S)=decide (t∈S):=by
  unfold inV nats
  rw [List.any_map]
  by_cases c:t∈S
  · rw [decide_eq_true c]
    exact List.any_eq_true.mpr ⟨t,c,by show ((t:Int) == (t:Int))=true; simp⟩
  · rw [decide_eq_false c]
    refine List.any_eq_false.mpr fun x hx=>?_
    show ¬ ((x:Int) == (t:Int))=true
    simp
    intro e
    exact c (by rw [← (show x=t by omega)]; exact hx)
theorem kit_lL {K:PySem.W.Frag}:PySem.W.kitOne K (.type "list") (.type "list")=some true:=by rfl
theorem way_one {ks:List Nat} {u:Nat} {x:S} {st:List Nat} (h:Way M es s ks u x st):∀ {u' x' st'},Way M es s ks u' x' st'→u=u'∧x=x'∧st=st':=by
  induction h with
  | nil =>
    intro u' x' st' h'
    generalize hz:([]:List Nat)=z at h'
    cases h' with
    | nil=>exact ⟨rfl,rfl,rfl⟩
    | snoc=>exact absurd hz.symm (by simp)
  | @snoc ks u x st k e h1 h2 h3 h4 ih =>
    intro u' x' st' h'
    generalize hz:ks ++ [k]=z at h'
    cases h' with
    | nil=>exact absurd hz (by simp)
    | @snoc ks' u2 x2 st2 k' e' g1 g2 g3 g4 =>
      obtain ⟨rfl,e2⟩:=List.append_inj' hz rfl
      obtain rfl:k=k':=by simpa using e2
      obtain ⟨rfl,rfl,rfl⟩:=ih g1
      rw [h2] at g2
      obtain rfl:=Option.some.inj g2
      exact ⟨rfl,rfl,rfl⟩
theorem way_fin {ks:List Nat} {u:Nat} {x:S} {st:List Nat} (h:Way M es s ks u x st):∃ st0,st=st0 ++ [u]:=by
  cases h with
  | nil=>exact ⟨[],rfl⟩
  | snoc h1 h2 h3 h4=>exact ⟨_,rfl⟩
theorem way_at {ks:List Nat} {u:Nat} {x:S} {st:List Nat} (h:Way M es s ks u x st):∀ {i k:Nat},ks[i]?=some k→∃ (u':Nat) (x':S) (st':List Nat) (e:Edge S),Way M es s (ks.take i) u' x' st'∧es[k]?=some e∧e.f=u'∧e.t ∉ st'∧Way M es s (ks.take (i + 1)) e.t (M.mul x' e.c) (st' ++ [e.t]):=by
  induction h with
  | nil=>intro i k hk; cases hk
  | @snoc ks u x st k e h1 h2 h3 h4 ih =>
    intro i k' hk
    by_cases c:i < ks.length
    · rw [List.getElem?_append_left c] at hk
      obtain ⟨u',x',st',e',a1,a2,a3,a4,a5⟩:=ih hk
      refine ⟨u',x',st',e',?_,a2,a3,a4,?_⟩
      · rw [List.take_append_of_le_length (by omega)]; exact a1
      · rw [List.take_append_of_le_length (by omega)]; exact a5
    · have hi:i < ks.length + 1:=by
        have:=(List.getElem?_eq_some_iff.mp hk).1
        rw [List.length_append,List.length_singleton] at this; exact this
      obtain rfl:i=ks.length:=by omega
      rw [List.getElem?_append_right (Nat.le_refl _),Nat.sub_self] at hk
      obtain rfl:k=k':=Option.some.inj hk
      refine ⟨u,x,st,e,?_,h2,h3,h4,?_⟩
      · rw [List.take_left]; exact h1
      · rw [List.take_of_length_le (by rw [List.length_append,List.length_singleton]; exact Nat.le_refl _)]; exact .snoc h1 h2 h3 h4
end
def spWalked:Sp:=fun vs H Q _=>∃ (l rl:Addr) (kd:Kd) (ok:KdOk kd) (n p o:Nat) (vd:V) (xs:List V) (es:List (Edge (Car kd))) (kz st:List Nat) (x:Car kd),vs=[.ref l,.int (kno kd),.ref rl,.int (p:Int),.int (o:Int),vd]∧MIs kd 1∧H l=some (.lst (nats kz))∧H rl=some (.lst xs)∧IsRoads H xs (es.map (Edge.road kd))∧Graph kd n es∧p < n∧es.length≤64∧Way (ks kd ok) es p kz o x st∧IsW H vd (enc kd x) ∧
  ∀ H',Same H H'→Q (.bl true) H'
theorem sc_law_walked:FnScope ["found","which","roads","place","other","due","stops","worth","k"] ["found","which","roads","place","other","due"] (defScope (top 57)):=⟨rfl,rfl,rfl,by decide +kernel,rfl,by decide +kernel,by decide +kernel⟩
theorem d_law_walked (T:Tx K mg a) (D_law_rest:Dn P w K mg base 1 "_law_rest" ["which"] spRest) (D_law_beh:Dn P w K mg base 34 "_law_beh" ["which","m","one","other"] spLBeh) (D_law_whole:Dn P w K mg base 1 "_law_whole" ["found"] spWhole)
    (F:DefAt K mg "_law_walked" (top 57)):Dn P w K mg base 36 "_law_walked" ["found","which","roads","place","other","due"] spWalked:=by
  obtain ⟨f,fd,hm,F⟩:=F.ex
  refine ⟨f,fd,hm,F.kp,F.binds fun _ _ _ _ _ _ us hl=>match us,hl with | [_,_,_,_,_,_],_=>rfl,?_⟩
  refine F.okN sc_law_walked (fun vs H Q E h=>?_) (fun cdv A outer s H vs Q E hr h=>?_)
  · obtain ⟨_,_,_,_,_,_,_,_,_,_,_,_,_,rfl,_⟩:=h
    rfl
  · obtain ⟨l,rl,kd,ok,n,p,o,vd,xs,es,kz,st,x,rfl,hmi,hl,hrl,hR,Gr,hp,h64,wy,wd,q⟩:=h
    refine ⟨_,(pss_cons (ps_if (pt_not (pt_val (pe_callB call_isinst rfl T.b_isinstance bt_isinstance (pa_cons (hs:=st_Name) (pv 0) (pa_cons (hs:=st_Name) (pe_bltn (v:=V.ty "list") rfl T.b_list bt_list rfl) pa_nil))) (fun _=>rfl))) (pss_one (ps_ret pe_bl)) pss_nil)
      (pss_cons (ps_set (i:=6) sc_law_walked.nd rfl (Or.inl rfl) (pe_lst (pa_cons (hs:=st_Name) (pv 3) pa_nil)))
      (pss_cons (ps_set (i:=7) sc_law_walked.nd rfl (Or.inl rfl) (pe_callD D_law_rest (hr.mono (by decide)) rfl passE0 (pa_cons (hs:=st_Name) (pv 1) pa_nil)))
      (pss_cons (ps_for PassesOwn.never rfl (pi_list (pv 0)) (pg_name (i:=8) sc_law_walked.nd rfl (Or.inl rfl)) (pss_cons (ps_if (PW.pt (pw_or (pt_not (pt_val (pe_callD D_law_whole (hr.mono (by decide)) rfl passE0 (pa_cons (hs:=st_Name) (pv 8) pa_nil)) (fun _=>rfl))) (pw_or (pt_not (pt_chain op_le op_lt pe_int (pv 8) (pe_callB call_len_seq rfl T.b_len bt_len (pa_cons (hs:=st_Name) (pv 2) pa_nil)))) (pw_or (pt_cmpR op_ne (pe_ix ix_tup (pe_ix ix_list (pv 2) (pv 8) (fun _ _=>rfl)) pe_int (fun _ _=>rfl)) (pe_ix ix_list (pv 6) (pe_un un_neg pe_int) (fun _ _=>rfl)) (nomark _)) (pw_or1 (pt_cmpR op_in_seq (pe_ix ix_tup (pe_ix ix_list (pv 2) (pv 8) (fun _ _=>rfl)) pe_int (fun _ _=>rfl)) (pv 6) (by with_unfolding_all rfl))))))) (pss_one (ps_ret pe_bl)) pss_nil)
      (pss_cons (ps_expr (pe_bm PySem.F.plainAttrs_list PySem.F.slot_list_append PySem.F.type_list_append mt_append (pv 6) (pa_cons (hs:=st_Subscript) (pe_ix ix_tup (pe_ix ix_list (pv 2) (pv 8) (fun _ _=>rfl)) pe_int (fun _ _=>rfl)) pa_nil)))
      (pss_one (ps_set (i:=7) sc_law_walked.nd rfl (Or.inl rfl) (pe_callD D_law_beh (hr.mono (by decide)) rfl passE0 (pa_cons (hs:=st_Name) (pv 1) (pa_cons (hs:=st_Constant) pe_int (pa_cons (hs:=st_Name) (pv 7) (pa_cons (hs:=st_Subscript) (pe_ix ix_tup (pe_ix ix_list (pv 2) (pv 8) (fun _ _=>rfl)) pe_int (fun _ _=>rfl)) pa_nil))))))))))
      (pss_one (ps_ret (pe_and (pe_cmpR op_eq (pe_ix ix_list (pv 6) (pe_un un_neg pe_int) (fun _ _=>rfl)) (pv 4) (nomark _)) (pe_one (pe_cmpR (op_eq.or (op_eqT hr.units0)) (pv 7) (pv 5) (nomark _)))))))))),?_⟩
    have hxl:xs.length=es.length:=by rw [hR.length,List.length_map]
    refine ⟨_,rfl,_,_,_,_,_,rfl,rfl,.of (.lst hl),kit_lL,_,rfl,iteF ?_⟩
    refine ⟨_,rfl,(by show 1≤sizeLine; decide),fun ls nls=>?_⟩
    have u1:=same_one (o:=.lst [.int (p:Int)]) nls
    have z1:(upd H ls (.lst [.int (p:Int)])) ls=some (.lst (nats [p])):=upd_same
    generalize upd H ls (.lst [.int (p:Int)])=H1 at u1 z1
    refine ⟨_,rfl,kno kd,rfl,kno_lo kd,kno_hi kd,fun v2 H2 s2 w2=>?_⟩
    rw [restW_kno kd ok] at w2
    have s02:=u1.trans s2
    dsimp only [gName]
    refine ⟨_,rfl,l,rfl,⟨_,SqL.of (s02 _ _ hl)⟩,for_list (xs:=nats kz) (fun i σ H'=>∃ (u:Nat) (y:Car kd) (st:List Nat) (v:V) (o8:Option V),σ=[some (.ref l),some (.int (kno kd)),some (.ref rl),some (.int (p:Int)),some (.int (o:Int)),some vd,some (.ref ls),some v,o8]∧Same H H'∧H' ls=some (.lst (nats st))∧IsW H' v (enc kd y)∧Way (ks kd ok) es p (kz.take i) u y st)
      ⟨p,_,_,v2,_,rfl,s02,s2 _ _ z1,w2,by rw [List.take_zero]; exact .nil⟩ (fun i σ H' _ ⟨_,_,_,_,_,_,s',_⟩=>SqL.of (s' _ _ hl)) ?_ ?_⟩
    · rintro i x' σ H' ex ⟨u,y,stp,v,o8,rfl,s',hls,wv,wz⟩
      obtain ⟨k,ek,rfl⟩:∃ k:Nat,kz[i]?=some k∧V.int (k:Int)=x':=by
        unfold nats at ex
        rw [List.getElem?_map] at ex
        cases e:kz[i]? with
        | none=>rw [e] at ex; cases ex
        | some k=>rw [e] at ex; exact ⟨k,rfl,Option.some.inj ex⟩
      obtain ⟨u',y',st',e,a1,a2,a3,a4,a5⟩:=way_at wy ek
      obtain ⟨rfl,rfl,rfl⟩:=way_one wz a1
      have hk:k < es.length:=(List.getElem?_eq_some_iff.mp a2).1
      have exk:xs[k]?=some (xs[k]'(by omega)):=List.getElem?_eq_getElem (by omega)
      obtain ⟨r,er,pr,wr,epr,f2,f3⟩:=pget hR exk
      rw [List.getElem?_map,a2] at er
      obtain rfl:Edge.road kd e=r:=Option.some.inj er
      rw [epr] at exk
      have sme:=Gr.sm e (List.mem_of_getElem? a2)
      have shr:=a1.short Gr.ends hp
      obtain ⟨st0,est⟩:=way_fin a1
      have g2:=s' _ _ f2
      dsimp only [gName]
      refine ⟨_,rfl,(k:Int),rfl,_,rfl,iteF ?_⟩
      refine ⟨_,rfl,_,_,rfl,rfl,_,rfl,iteD (fun _=>?_) (fun c=>absurd (Int.natCast_nonneg k) c)⟩
      refine ⟨_,rfl,rl,xs,rfl,.inl (SqL.of (s' _ _ hrl)),_,_,rfl,rfl,_,rfl,?_⟩
      rw [decide_eq_true (show (k:Int) < (xs.length:Int) by omega)]
      refine iteF ?_
      have gl:atI (nats stp) (-1)=some (V.int (u:Nat)):=by
        rw [est]; unfold nats; rw [List.map_append]; exact L2.atI_last _ _
      refine ⟨_,rfl,_,rfl,rl,_,_,_,rfl,rfl,SqL.of (s' _ _ hrl),atI_nat exk,pr,_,_,_,rfl,rfl,SqT.of g2,rfl,_,rfl,_,rfl,ls,_,_,_,rfl,rfl,SqL.of hls,gl,rfl,_,rfl,iteNeI (fun c=>absurd (congrArg Int.ofNat a3) c) (fun _=>?_)⟩
      refine ⟨_,rfl,_,rfl,rl,_,_,_,rfl,rfl,SqL.of (s' _ _ hrl),atI_nat exk,pr,_,_,_,rfl,rfl,SqT.of g2,rfl,_,rfl,ls,nats stp,rfl,.inl (SqL.of hls),rfl,nats_flat stp,_,rfl,?_⟩
      show if (inV (V.int (e.t:Nat)) (nats stp))=true then _ else _
      rw [inV_nats,decide_eq_false a4]
      refine iteF ?_
      refine ⟨_,rfl,.inl ⟨rfl,_,SqL.of hls⟩,_,rfl,_,rfl,rl,_,_,_,rfl,rfl,SqL.of (s' _ _ hrl),atI_nat exk,pr,_,_,_,rfl,rfl,SqT.of g2,rfl,ls,_,_,rfl,rfl,hls,lines (by rw [nats_len,a1.nd.2]; have:=Gr.nb; omega),?_⟩
      have st2:=stup_lst (o:=.lst (nats stp ++ [V.int (Edge.road kd e).t])) hls
      have z3:(upd H' ls (.lst (nats stp ++ [V.int (Edge.road kd e).t]))) ls=some (.lst (nats (stp ++ [e.t]))):=by
        rw [upd_same]; unfold nats; rw [List.map_append]; rfl
      have s3:Same H (upd H' ls (.lst (nats stp ++ [V.int (Edge.road kd e).t]))):=same_upd s' nls
      have wv3:=wv.st st2
      generalize upd H' ls (.lst (nats stp ++ [V.int (Edge.road kd e).t]))=H3 at st2 z3 s3 wv3 ⊢
      have smy:=(a1.sm Gr.sm).mono (show _≤Big by rw [List.length_take]; show _≤16000000; have:=wy.short Gr.ends hp; have:=Gr.nb; omega)
      refine ⟨_,rfl,_,rfl,_,rfl,_,rfl,rl,_,_,_,rfl,rfl,SqL.of (s3 _ _ hrl),atI_nat exk,pr,_,_,_,rfl,rfl,SqT.of (s3 _ _ f2),rfl,?_⟩
      refine ⟨kd,ok,1,v,wr,y,e.c,rfl,hmi,wv3,f3.same s3,smy,sme.mono (by decide),fun v4 H4 s4 w4=>?_⟩
      exact ⟨e.t,_,stp ++ [e.t],v4,_,rfl,s3.trans s4,s4 _ _ z3,w4,a5⟩
    · rintro σ H' ⟨u,y,stp,v,o8,rfl,s',hls,wv,wz⟩
      rw [nats_len,List.take_length] at wz
      obtain ⟨rfl,rfl,rfl⟩:=way_one wy wz
      obtain ⟨st0,est⟩:=way_fin wy
      have gl:atI (nats st) (-1)=some (V.int (o:Nat)):=by
        rw [est]; unfold nats; rw [List.map_append]; exact L2.atI_last _ _
      refine ⟨_,rfl,_,rfl,ls,_,_,_,rfl,rfl,SqL.of hls,gl,_,rfl,rfl,_,rfl,iteEqI (fun _=>?_) (fun c=>absurd rfl c)⟩
      exact ⟨_,rfl,_,rfl,eqD wv (wd.same s') fun b hb=>by rw [hb.mpr rfl]; exact q _ s'⟩
end
end K14
namespace K14
open PySem L2 Ws
seal PE PT PW PA PC PS PSs PG PGs PI PO PJ PTs
section
variable {P : Program} {w : World} {K : PySem.W.Frag} {mg : Str → Option Value} {base : Heap} {a : Adr}
def spRefd (a:Adr):Sp:=fun vs H Q _=>∃ (np kp tp:Addr) (kd:Kd) (ok:KdOk kd) (n p o:Nat) (xs:List V) (es:List (Edge (Car kd))),vs=[.ref np,.int (p:Int),.int (o:Int)]∧NetIs a H np kd n kp tp xs (es.map (Edge.road kd))∧HasK kd∧Graph kd n es∧es.length≤64∧p < n∧o < n∧picksK kd=true∧best (ks kd ok) es p n o=(ks kd ok).zero ∧
  ∀ H',Same H H'→Q (.bl true) H'
theorem sc_law_refused:FnScope ["net","place","other","told","e"] ["net","place","other"] (defScope (top 58)):=⟨rfl,rfl,rfl,by decide +kernel,rfl,by decide +kernel,by decide +kernel⟩
theorem d_law_refused (T:Tx K mg a) (D_way_for:Dn P w K mg base 39 "way_for" ["net","place","other"] (spWF a)) (F:DefAt K mg "_law_refused" (top 58)):Dn P w K mg base 41 "_law_refused" ["net","place","other"] (spRefd a):=by
  obtain ⟨f,fd,hm,F⟩:=F.ex
  refine ⟨f,fd,hm,F.kp,F.binds fun _ _ _ _ _ _ us hl=>match us,hl with | [_,_,_],_=>rfl,?_⟩
  refine F.okN sc_law_refused (fun vs H Q E h=>?_) (fun cdv A outer s H vs Q E hr h=>?_)
  · obtain ⟨_,_,_,_,_,_,_,_,_,_,rfl,_⟩:=h
    rfl
  · obtain ⟨np,kp,tp,kd,ok,n,p,o,xs,es,rfl,N,hK,G,h64,hp,ho,hpk,hz,q⟩:=h
    refine ⟨_,(pss_cons (ps_set (i:=3) sc_law_refused.nd rfl (Or.inl rfl) pe_non)
      (pss_cons (ps_tryAE (asg:=[]) (i:=4) T.k_SumError rfl rfl ⟨rfl,rfl⟩ (fun _=>rfl) sc_law_refused.nd rfl rfl (fun Et pn k xe hx ho=>(pss_one (ps_expr (pe_callD D_way_for (hr.mono (by decide)) rfl hx (pa_cons (hs:=st_Name) (pv 0) (pa_cons (hs:=st_Name) (pv 1) (pa_cons (hs:=st_Name) (pv 2) pa_nil))))))) (fun x pn=>(pss_one (ps_set (i:=3) sc_law_refused.nd rfl (Or.inl rfl) (pe_tup (pa_cons (hs:=st_Call) (pe_callB call_isinst rfl T.b_isinstance bt_isinstance (pa_cons (hs:=st_Name) (pv 4) (pa_cons (hs:=st_Name) (pe_glob (v:=V.ref a.cNoWay) rfl T.g_NoWay rfl) pa_nil))) (pa_cons (hs:=st_Call) (pe_callB call_isinst rfl T.b_isinstance bt_isinstance (pa_cons (hs:=st_Name) (pv 4) (pa_cons (hs:=st_Name) (pe_bltn (v:=V.ty "ValueError") rfl T.b_ValueError bt_ValueError rfl) pa_nil))) pa_nil)))))))
      (pss_one (ps_ret (pe_cmpR (op_eqT hr.units0) (pv 3) (pe_tup (pa_cons (hs:=st_Constant) pe_bl (pa_cons (hs:=st_Constant) pe_bl pa_nil))) (nomark _)))))),?_⟩
    have b8:(8:Nat) < 10 ^ 62:=by decide
    have nb:=G.nb
    have both:((0:Int)≤p∧(p:Int) < n)∧(0:Int)≤o∧(o:Int) < n:=by omega
    refine ⟨fun cls _ H1=>Same H H1∧cls=.ref a.cNoWay,fun pn k xe=>?_,?_⟩
    · exact ⟨_,rfl,_,rfl,_,rfl,np,kp,tp,kd,ok,n,p,o,xs,es,rfl,N,hK,G,h64,by omega,by omega,(fun z=>absurd both z),(fun _ z=>by rw [hpk] at z; cases z),(fun _ _ _ H' s'=>⟨s',rfl⟩),fun _ _ z=>absurd hz z⟩
    · rintro cls H1 x ⟨s1,rfl⟩ nx'
      have sx:Same H (upd H1 x (.ext (ExcAt x (.ref a.cNoWay)))):=s1.trans (same_one nx')
      have ex:(upd H1 x (.ext (ExcAt x (.ref a.cNoWay)))) x=some (.ext (ExcAt x (.ref a.cNoWay))):=upd_same
      refine ⟨T.exm_NoWay_SumError,fun pn=>?_⟩
      refine ⟨_,rfl,_,_,_,_,_,rfl,rfl,.exc ex T.exk_NoWay,kit_self,_,rfl,_,_,_,_,_,rfl,rfl,.exc ex T.exk_NoWay,T.kt_NoWay_ValueError,(by show 2≤sizeLine; decide),fun t nt=>?_⟩
      have s2:=sx.trans (same_one (o:=.tup [.bl true,.bl true]) nt)
      have ht:=upd_same (H:=upd H1 x (.ext (ExcAt x (.ref a.cNoWay)))) (a:=t) (o:=.tup [.bl true,.bl true])
      refine ⟨_,rfl,(by show 2≤sizeLine; decide),fun t2 nt2=>?_⟩
      have u3:=same_one (o:=.tup [.bl true,.bl true]) nt2
      refine ⟨t,t2,_,_,rfl,rfl,SqT.of (u3 _ _ ht),SqT.of upd_same,rfl,rfl,?_⟩
      exact q _ (s2.trans u3)
theorem pick3 {c:Int}:∃ which:Int,atI [V.int 0,.int 1,.int 3] (c % 3)=some (.int which)∧(which=0∨which=1∨which=3):=by
  have a:=Int.emod_nonneg c (show (3:Int)≠0 by decide)
  have b:=Int.emod_lt_of_pos c (show (0:Int) < 3 by decide)
  generalize c % 3=x at a b
  obtain rfl | rfl | rfl:x=0∨x=1∨x=2:=by omega
  · exact ⟨0,rfl,by decide⟩
  · exact ⟨1,rfl,by decide⟩
  · exact ⟨3,rfl,by decide⟩
theorem picks_of {kd:Kd} (h:kno kd=0∨kno kd=1∨kno kd=3):picksK kd=true:=by
  cases kd with
  | fewest=>rfl
  | widest=>rfl
  | likeliest=>rfl
  | counted=>exact absurd (show (2:Int)=0∨(2:Int)=1∨(2:Int)=3 from h) (by decide)
  | chances=>exact absurd (show (4:Int)=0∨(4:Int)=1∨(4:Int)=3 from h) (by decide)
  | musts=>exact absurd (show (5:Int)=0∨(5:Int)=1∨(5:Int)=3 from h) (by decide)
  | rests m=>exact absurd (show (6:Int)=0∨(6:Int)=1∨(6:Int)=3 from h) (by decide)
theorem sc_law:FnScope ["script","which","drawn","many","net","place","other","due","count","found"] ["script"] (defScope (top 59)):=⟨rfl,rfl,rfl,by decide +kernel,rfl,by decide +kernel,by decide +kernel⟩
theorem ok_law (T:Tx K mg a) (D_law_cell_at:Dn P w K mg base 1 "_law_cell_at" ["script","k"] (spCell K)) (D_law_none:Dn P w K mg base 1 "_law_none" ["which"] spNone) (D_law_kind:Dn P w K mg base 3 "_law_kind" ["which","m"] (spKind a)) (D_law_net:Dn P w K mg base 36 "_law_net" ["script","at","which","m","most","extra"] (spLNet K))
    (M_Net:Mkr P w K mg base 38 "Net" a.cNet ["self","kind","places","roads"] (spNet a)) (D_way_for:Dn P w K mg base 39 "way_for" ["net","place","other"] (spWF a)) (D_law_refused:Dn P w K mg base 41 "_law_refused" ["net","place","other"] (spRefd a)) (D_law_walked:Dn P w K mg base 36 "_law_walked" ["found","which","roads","place","other","due"] spWalked)
    (D_law_steps:Dn P w K mg base 35 "_law_steps" ["which","m","many","roads","place","count"] spLSteps) (D_law_tog:Dn P w K mg base 34 "_law_tog" ["which","one","other"] spLTog)
    {f:Addr} {fd:FuncData} (F:Fun K "law" "law" (top 59) f fd):FnOk P w K mg base (CXE P w) 42 f fd ["script"] (spLaw K):=by
  refine F.okN sc_law (fun vs H Q E h=>?_) (fun cdv A outer s H vs Q E hr h=>?_)
  · obtain ⟨_,_,rfl,_⟩:=h
    rfl
  · obtain ⟨sa,ns,rfl,hS,hlen,q⟩:=h
    refine ⟨_,(pss_cons (ps_set (i:=1) sc_law.nd rfl (Or.inl rfl) (pe_ix ix_list (pe_lst (pa_cons (hs:=st_Constant) pe_int (pa_cons (hs:=st_Constant) pe_int (pa_cons (hs:=st_Constant) pe_int pa_nil)))) (pe_op op_mod (pe_callD D_law_cell_at (hr.mono (by decide)) rfl passE0 (pa_cons (hs:=st_Name) (pv 0) (pa_cons (hs:=st_Constant) pe_int pa_nil))) pe_int) (fun _ _=>rfl)))
      (pss_cons (ps_set (i:=2) sc_law.nd rfl (Or.inl rfl) (pe_callD D_law_net (hr.mono (by decide)) rfl passE0 (pa_cons (hs:=st_Name) (pv 0) (pa_cons (hs:=st_Constant) pe_int (pa_cons (hs:=st_Name) (pv 1) (pa_cons (hs:=st_Constant) pe_int (pa_cons (hs:=st_Constant) pe_int (pa_cons (hs:=st_Constant) pe_int pa_nil))))))))
      (pss_cons (ps_set (i:=3) sc_law.nd rfl (Or.inl rfl) (pe_ix ix_tup (pv 2) pe_int (fun _ _=>rfl)))
      (pss_cons (ps_set (i:=4) sc_law.nd rfl (Or.inl rfl) (pe_makeD M_Net (hr.mono (by decide)) rfl passE0 (pa_cons (hs:=st_Call) (pe_callD D_law_kind (hr.mono (by decide)) rfl passE0 (pa_cons (hs:=st_Name) (pv 1) (pa_cons (hs:=st_Constant) pe_int pa_nil))) (pa_cons (hs:=st_Name) (pv 3) (pa_cons (hs:=st_Call) (pe_callTy call_list_of rfl T.b_list bt_list (pa_cons (hs:=st_Subscript) (pe_ix ix_tup (pv 2) pe_int (fun _ _=>rfl)) pa_nil)) pa_nil)))))
      (pss_cons (ps_set (i:=5) sc_law.nd rfl (Or.inl rfl) (pe_op op_mod (pe_callD D_law_cell_at (hr.mono (by decide)) rfl passE0 (pa_cons (hs:=st_Name) (pv 0) (pa_cons (hs:=st_Constant) pe_int pa_nil))) (pv 3)))
      (pss_cons (ps_set (i:=6) sc_law.nd rfl (Or.inl rfl) (pe_op op_mod (pe_callD D_law_cell_at (hr.mono (by decide)) rfl passE0 (pa_cons (hs:=st_Name) (pv 0) (pa_cons (hs:=st_Constant) pe_int pa_nil))) (pv 3)))
      (pss_cons (ps_set (i:=7) sc_law.nd rfl (Or.inl rfl) (pe_callD D_law_none (hr.mono (by decide)) rfl passE0 (pa_cons (hs:=st_Name) (pv 1) pa_nil)))
      (pss_cons (ps_for PassesOwn.never rfl (pi_range1 rfl T.b_range (pa_cons (hs:=st_Name) (pv 3) pa_nil)) (pg_name (i:=8) sc_law.nd rfl (Or.inl rfl)) (pss_one (ps_set (i:=7) sc_law.nd rfl (Or.inl rfl) (pe_callD D_law_tog (hr.mono (by decide)) rfl passE0 (pa_cons (hs:=st_Name) (pv 1) (pa_cons (hs:=st_Name) (pv 7) (pa_cons (hs:=st_Subscript) (pe_ix ix_list (pe_callD D_law_steps (hr.mono (by decide)) rfl passE0 (pa_cons (hs:=st_Name) (pv 1) (pa_cons (hs:=st_Constant) pe_int (pa_cons (hs:=st_Name) (pv 3) (pa_cons (hs:=st_Subscript) (pe_ix ix_tup (pv 2) pe_int (fun _ _=>rfl)) (pa_cons (hs:=st_Name) (pv 5) (pa_cons (hs:=st_Name) (pv 8) pa_nil))))))) (pv 6) (fun _ _=>rfl)) pa_nil)))))))
      (pss_cons (ps_if (pt_cmpR (op_eq.or (op_eqT hr.units0)) (pv 7) (pe_callD D_law_none (hr.mono (by decide)) rfl passE0 (pa_cons (hs:=st_Name) (pv 1) pa_nil)) (nomark _)) (pss_one (ps_ret (pe_callD D_law_refused (hr.mono (by decide)) rfl passE0 (pa_cons (hs:=st_Name) (pv 4) (pa_cons (hs:=st_Name) (pv 5) (pa_cons (hs:=st_Name) (pv 6) pa_nil)))))) pss_nil)
      (pss_cons (ps_set (i:=9) sc_law.nd rfl (Or.inl rfl) (pe_callD D_way_for (hr.mono (by decide)) rfl passE0 (pa_cons (hs:=st_Name) (pv 4) (pa_cons (hs:=st_Name) (pv 5) (pa_cons (hs:=st_Name) (pv 6) pa_nil)))))
      (pss_cons (ps_if (pt_not (pt_val (pe_callD D_law_walked (hr.mono (by decide)) rfl passE0 (pa_cons (hs:=st_Name) (pv 9) (pa_cons (hs:=st_Name) (pv 1) (pa_cons (hs:=st_Subscript) (pe_ix ix_tup (pv 2) pe_int (fun _ _=>rfl)) (pa_cons (hs:=st_Name) (pv 5) (pa_cons (hs:=st_Name) (pv 6) (pa_cons (hs:=st_Name) (pv 7) pa_nil))))))) (fun _=>rfl))) (pss_one (ps_ret pe_bl)) pss_nil)
      (pss_cons (ps_expr (pe_bm PySem.F.plainAttrs_list PySem.F.slot_list_append PySem.F.type_list_append mt_append (pv 9) (pa_cons (hs:=st_Constant) pe_int pa_nil)))
      (pss_one (ps_ret (pe_callD D_law_walked (hr.mono (by decide)) rfl passE0 (pa_cons (hs:=st_Call) (pe_callD D_way_for (hr.mono (by decide)) rfl passE0 (pa_cons (hs:=st_Name) (pv 4) (pa_cons (hs:=st_Name) (pv 5) (pa_cons (hs:=st_Name) (pv 6) pa_nil)))) (pa_cons (hs:=st_Name) (pv 1) (pa_cons (hs:=st_Subscript) (pe_ix ix_tup (pv 2) pe_int (fun _ _=>rfl)) (pa_cons (hs:=st_Name) (pv 5) (pa_cons (hs:=st_Name) (pv 6) (pa_cons (hs:=st_Name) (pv 7) pa_nil))))))))))))))))))))),?_⟩
    refine ⟨(by show 3≤sizeLine; decide),fun l0 nl0=>?_⟩
    have u0:=same_one (o:=.lst [V.int 0,.int 1,.int 3]) nl0
    have hS:=same_lst u0 hS
    have z0:=upd_same (H:=H) (a:=l0) (o:=.lst [V.int 0,.int 1,.int 3])
    generalize upd H l0 (.lst [V.int 0,.int 1,.int 3])=H1 at u0 hS z0
    obtain ⟨which,hpick,h3⟩:=pick3 (c:=ns.getD (0:Int).toNat 0)
    refine ⟨_,rfl,sa,ns,0,rfl,hS,by decide,_,_,rfl,rfl,(by show (0:Int) < 3; decide),l0,_,_,_,rfl,rfl,SqL.of z0,hpick,?_⟩
    have h0:0≤which:=by omega
    have h7:which < 7:=by omega
    refine ⟨_,rfl,_,rfl,sa,ns,3,which,1,8,30,rfl,hS,by decide,h0,h7,by decide,by decide,by decide,by decide,by decide,fun dpn l xs n rs H2 s2 nl e1 e2 hR G=>?_⟩
    have ok:KdOk (kdOf which 1):=kdOf_ok (by decide) (by decide)
    have hw:which=kno (kdOf which 1):=(kno_kdOf h0 h7).symm
    have hmi:MIs (kdOf which 1) 1:=mIs rfl (by decide)
    have gn1:=G.n1
    have gn2:=G.n2
    refine ⟨_,rfl,dpn,_,_,_,rfl,rfl,SqT.of e1,rfl,?_⟩
    refine ⟨_,rfl,which,1,rfl,h0,h7,by decide,by decide,fun kp H3 s3 k3=>?_⟩
    generalize kdOf which 1=kd at ok hw hmi G k3
    obtain ⟨es,rfl,Gr⟩:=G.graph (by decide)
    have b8:(8:Nat) < 10 ^ 62:=by decide
    have glen:=G.len
    rw [List.length_map] at glen
    have hxl:xs.length=es.length:=by rw [hR.length,List.length_map]
    refine ⟨_,rfl,_,rfl,dpn,_,_,_,rfl,rfl,SqT.of (s3 _ _ e1),rfl,l,xs,rfl,.inl (SqL.of (s3 _ _ e2)),fun l2 nl2=>?_⟩
    have u2:=same_one (o:=.lst xs) nl2
    refine mk_any (k3.same u2) (hasK kd) ok upd_same ((hR.same s3).same u2) (log2_small (by omega)) (fun _ _=>good_sm G) (fun _ _ np tp H5 s5 _ N=>?_) (fun z=>by rw [G.yes (by decide) (by decide)] at z; cases z) (fun _ z=>by rw [G.worths] at z; cases z)
    rw [show (((n:Nat):Int).toNat)=n by omega] at N
    have s25:Same H2 H5:=(s3.trans u2).trans s5
    have d5:=s25 _ _ e1
    have l5:=s25 _ _ e2
    have r5:=hR.same s25
    have hS5:=same_lst (s2.trans s25) hS
    clear s3 u2 s5 s25 e1 e2 hR nl nl2 k3 s2 hS
    have hpk:picksK kd=true:=picks_of (by omega)
    have hE:∀ e∈es,e.f < n∧e.t < n∧Sm 200 (enc kd e.c):=fun e he=>⟨(Gr.ends e he).1,(Gr.ends e he).2,Gr.sm e he⟩
    subst hw
    dsimp only [gName]
    obtain ⟨p,ep,hp⟩:=modlt (i:=ns.getD (1:Int).toNat 0) (m:=n) (by omega)
    obtain ⟨o,eo,ho⟩:=modlt (i:=ns.getD (2:Int).toNat 0) (m:=n) (by omega)
    refine ⟨_,rfl,sa,ns,1,rfl,hS5,by decide,_,rfl,_,_,rfl,rfl,(by show (0:Int) < (n:Int); omega),?_⟩
    dsimp only [gName]
    rw [ep]
    refine ⟨_,rfl,sa,ns,2,rfl,hS5,by decide,_,rfl,_,_,rfl,rfl,(by show (0:Int) < (n:Int); omega),?_⟩
    dsimp only [gName]
    rw [eo]
    refine ⟨_,rfl,kno kd,rfl,kno_lo kd,kno_hi kd,fun v6 H6 s6 w6=>?_⟩
    rw [noneW_kno kd ok] at w6
    have eb:best (ks kd ok) es p n o=(ks kd ok).to n (fun c=>stepsV (ks kd ok) es p c o):=by
      unfold best Ws.upTo
      rw [show n - 1 + 1=n by omega]
    dsimp only [gName]
    refine ⟨_,rfl,(n:Int),rfl,by omega,by omega,for_range (n:=(n:Int).toNat) (fun c σ H'=>∃ v o8,σ=[some (.ref sa),some (.int (kno kd)),some (.ref dpn),some (.int (n:Int)),some (.ref np),some (.int (p:Int)),some (.int (o:Int)),some v,o8,none]∧Same H5 H'∧IsW H' v (enc kd ((ks kd ok).to c (fun c=>stepsV (ks kd ok) es p c o)))∧Sm (50010 * c + 30) (enc kd ((ks kd ok).to c (fun c=>stepsV (ks kd ok) es p c o)))) ⟨v6,_,rfl,s6,w6,(sm_zero kd ok).mono (by decide)⟩ ?_ ?_⟩
    · rintro c σ H7 hc ⟨v,o8,rfl,s7,w7,sm7⟩
      have hc:c < n:=by omega
      have ec:(0 + (c:Int))=((c:Nat):Int):=by omega
      dsimp only [gName]
      rw [ec]
      refine ⟨_,rfl,_,rfl,_,rfl,_,rfl,_,rfl,dpn,_,_,_,rfl,rfl,SqT.of (s7 _ _ d5),rfl,_,rfl,_,rfl,?_⟩
      refine ⟨kd,ok,1,l,n,p,c,xs,es,rfl,hmi,s7 _ _ l5,r5.same s7,hE,by omega,hp,by omega,Gr.fits (by omega) p (by omega),fun ly ys H8 s8 n8 z8 v8=>?_⟩
      obtain ⟨vo,ev,wo,so⟩:=v8.2 o ho
      refine ⟨_,rfl,ly,_,_,_,rfl,rfl,SqL.of z8,atI_nat ev,?_⟩
      have e:(ks kd ok).to (c + 1) (fun c=>stepsV (ks kd ok) es p c o)=(ks kd ok).add ((ks kd ok).to c (fun c=>stepsV (ks kd ok) es p c o)) (stepsV (ks kd ok) es p c o):=to_succ _ c _
      refine ⟨kd,ok,v,vo,_,stepsV (ks kd ok) es p c o,rfl,w7.same s8,wo,sm7.mono (show _≤16000000 by omega),Sm.mono (show 50000≤Big by decide) so,fun v9 H9 s9 w9=>?_⟩
      refine ⟨v9,_,rfl,(s7.trans s8).trans s9,by rw [e]; exact w9,?_⟩
      rw [e]
      exact (sm_add (kd:=kd) (ok:=ok) (B:=50010 * c + 30) (C:=50000) sm7 so).mono (by omega)
    rintro σ H7 ⟨vd,o8,rfl,s7,w7,sm7⟩
    rw [Int.toNat_natCast,← eb] at w7
    have N7:=N.same s7
    have both:((0:Int)≤p∧(p:Int) < n)∧(0:Int)≤o∧(o:Int) < n:=by omega
    refine ⟨_,rfl,_,rfl,kno kd,rfl,kno_lo kd,kno_hi kd,fun v8 H8 s8 w8=>?_⟩
    rw [noneW_kno kd ok] at w8
    have s58:=s7.trans s8
    have N8:=N.same s58
    refine eqD (w7.same s8) w8 fun b hb=>⟨_,rfl,iteB (fun c=>?_) (fun c=>?_)⟩
    · exact ⟨_,rfl,_,rfl,_,rfl,np,kp,tp,kd,ok,n,p,o,xs,es,rfl,N8,hasK kd,Gr,by omega,hp,ho,hpk,hb.mp c,fun H9 s9=>q _⟩
    have bz:best (ks kd ok) es p n o≠(ks kd ok).zero:=fun z=>by rw [hb.mpr z] at c; cases c
    refine ⟨_,rfl,_,rfl,_,rfl,np,kp,tp,kd,ok,n,p,o,xs,es,rfl,N8,hasK kd,Gr,by omega,by omega,by omega,(fun z=>absurd both z),(fun _ z=>by rw [hpk] at z; cases z),(fun _ _ z=>absurd z bz),fun _ _ _ lf kz st H9 s9 nlf hlf wy=>?_⟩
    have s59:=s58.trans s9
    dsimp only [gName]
    refine ⟨_,rfl,_,rfl,_,rfl,dpn,_,_,_,rfl,rfl,SqT.of (s59 _ _ d5),rfl,_,rfl,_,rfl,_,rfl,?_⟩
    refine ⟨lf,l,kd,ok,n,p,o,vd,xs,es,kz,st,_,rfl,hmi,hlf,s59 _ _ l5,r5.same s59,Gr,hp,by omega,wy,(w7.same s8).same s9,fun H10 s10=>⟨_,rfl,iteF ?_⟩⟩
    have hlf10:=s10 _ _ hlf
    have shr:=wy.short Gr.ends hp
    refine ⟨_,rfl,.inl ⟨rfl,_,SqL.of hlf10⟩,lf,_,_,rfl,rfl,hlf10,lines (by rw [nats_len]; omega),?_⟩
    have s8b:Same H8 (upd H10 lf (.lst (nats kz ++ [V.int 0]))):=same_upd (s9.trans s10) nlf
    generalize upd H10 lf (.lst (nats kz ++ [V.int 0]))=H11 at s8b ⊢
    refine ⟨_,rfl,_,rfl,_,rfl,np,kp,tp,kd,ok,n,p,o,xs,es,rfl,N8.same s8b,hasK kd,Gr,by omega,by omega,by omega,(fun z=>absurd both z),(fun _ z=>by rw [hpk] at z; cases z),(fun _ _ z=>absurd z bz),fun _ _ _ lf kz st H12 s12 nlf hlf wy=>?_⟩
    have s8c:=s8b.trans s12
    have s5c:=s58.trans s8c
    refine ⟨_,rfl,_,rfl,dpn,_,_,_,rfl,rfl,SqT.of (s5c _ _ d5),rfl,_,rfl,_,rfl,_,rfl,?_⟩
    exact ⟨lf,l,kd,ok,n,p,o,vd,xs,es,kz,st,_,rfl,hmi,hlf,s5c _ _ l5,r5.same s5c,Gr,hp,by omega,wy,(w7.same s8).same s8c,fun H13 s13=>q _⟩
end
end K14
namespace K14
open PySem L2 Ws
seal PE PT PW PA PC PS PSs PG PGs PI PO
section
theorem all_mk {l:PySem.W.OpenLaw} {w:World} {K:PySem.W.Frag} {h:Heap} {mg:Str→Option Value} {fa:Addr} (hP:l.prog.given.tree=none) (X:K.In h) (G:h.Ns mainGlobals mg) (hfa:mg "law"=some (.ref fa))
    {c_SumError:Addr} {c_NoNet:Addr} {c_NoWorth:Addr} {c_NoPlace:Addr} {c_NoPick:Addr} {c_NoWay:Addr} {c_Net:Addr} {c_Kind:Addr} {c_Fewest:Addr} {c_Widest:Addr} {c_Counted:Addr} {c_Likeliest:Addr} {c_Chances:Addr} {c_Musts:Addr} {c_Rests:Addr} {t_MOST_PLACES:Tok} {t_MOST_ROADS:Tok} {t_WIDEST:Tok} {t_MOST_RESTS:Tok} {f_Ddivisor:Addr} {oc_Ddivisor:Value} {kV_Ddivisor:Value} {dc_Ddivisor:Value} {pm_Ddivisor:Value} {cd_Ddivisor:Value} {ct_Ddivisor:Value} {od_Ddivisor:Option Addr} {an_Ddivisor:Option Addr} {sl_Ddivisor:Array (Option Value)} {f_MRests_init:Addr} {oc_MRests_init:Value} {kV_MRests_init:Value} {dc_MRests_init:Value} {pm_MRests_init:Value} {cd_MRests_init:Value} {ct_MRests_init:Value} {od_MRests_init:Option Addr} {an_MRests_init:Option Addr} {sl_MRests_init:Array (Option Value)} {f_Dlaw_cell_at:Addr} {oc_Dlaw_cell_at:Value} {kV_Dlaw_cell_at:Value} {dc_Dlaw_cell_at:Value} {pm_Dlaw_cell_at:Value} {cd_Dlaw_cell_at:Value} {ct_Dlaw_cell_at:Value} {od_Dlaw_cell_at:Option Addr} {an_Dlaw_cell_at:Option Addr} {sl_Dlaw_cell_at:Array (Option Value)} {f_Dlaw_kind:Addr} {oc_Dlaw_kind:Value} {kV_Dlaw_kind:Value} {dc_Dlaw_kind:Value} {pm_Dlaw_kind:Value} {cd_Dlaw_kind:Value} {ct_Dlaw_kind:Value} {od_Dlaw_kind:Option Addr} {an_Dlaw_kind:Option Addr} {sl_Dlaw_kind:Array (Option Value)} {f_Dlaw_share:Addr} {oc_Dlaw_share:Value} {kV_Dlaw_share:Value} {dc_Dlaw_share:Value} {pm_Dlaw_share:Value} {cd_Dlaw_share:Value} {ct_Dlaw_share:Value} {od_Dlaw_share:Option Addr} {an_Dlaw_share:Option Addr} {sl_Dlaw_share:Array (Option Value)} {f_Dlaw_none:Addr} {oc_Dlaw_none:Value} {kV_Dlaw_none:Value} {dc_Dlaw_none:Value} {pm_Dlaw_none:Value} {cd_Dlaw_none:Value} {ct_Dlaw_none:Value} {od_Dlaw_none:Option Addr} {an_Dlaw_none:Option Addr} {sl_Dlaw_none:Array (Option Value)} {f_Dlaw_rest:Addr} {oc_Dlaw_rest:Value} {kV_Dlaw_rest:Value} {dc_Dlaw_rest:Value} {pm_Dlaw_rest:Value} {cd_Dlaw_rest:Value} {ct_Dlaw_rest:Value} {od_Dlaw_rest:Option Addr} {an_Dlaw_rest:Option Addr} {sl_Dlaw_rest:Array (Option Value)} {f_Dlaw_worth:Addr} {oc_Dlaw_worth:Value} {kV_Dlaw_worth:Value} {dc_Dlaw_worth:Value} {pm_Dlaw_worth:Value} {cd_Dlaw_worth:Value} {ct_Dlaw_worth:Value} {od_Dlaw_worth:Option Addr} {an_Dlaw_worth:Option Addr} {sl_Dlaw_worth:Array (Option Value)} {f_Dlowest:Addr} {oc_Dlowest:Value} {kV_Dlowest:Value} {dc_Dlowest:Value} {pm_Dlowest:Value} {cd_Dlowest:Value} {ct_Dlowest:Value} {od_Dlowest:Option Addr} {an_Dlowest:Option Addr} {sl_Dlowest:Array (Option Value)} {f_Dadded:Addr} {oc_Dadded:Value} {kV_Dadded:Value} {dc_Dadded:Value} {pm_Dadded:Value} {cd_Dadded:Value} {ct_Dadded:Value} {od_Dadded:Option Addr} {an_Dadded:Option Addr} {sl_Dadded:Array (Option Value)} {f_Dmultiplied:Addr} {oc_Dmultiplied:Value} {kV_Dmultiplied:Value} {dc_Dmultiplied:Value} {pm_Dmultiplied:Value} {cd_Dmultiplied:Value} {ct_Dmultiplied:Value} {od_Dmultiplied:Option Addr} {an_Dmultiplied:Option Addr} {sl_Dmultiplied:Array (Option Value)} {f_Dgreater:Addr} {oc_Dgreater:Value} {kV_Dgreater:Value} {dc_Dgreater:Value} {pm_Dgreater:Value} {cd_Dgreater:Value} {ct_Dgreater:Value} {od_Dgreater:Option Addr} {an_Dgreater:Option Addr} {sl_Dgreater:Array (Option Value)} {f_Dlacking_to_one:Addr} {oc_Dlacking_to_one:Value} {kV_Dlacking_to_one:Value} {dc_Dlacking_to_one:Value} {pm_Dlacking_to_one:Value} {cd_Dlacking_to_one:Value} {ct_Dlacking_to_one:Value} {od_Dlacking_to_one:Option Addr} {an_Dlacking_to_one:Option Addr} {sl_Dlacking_to_one:Array (Option Value)} {f_Draised:Addr} {oc_Draised:Value} {kV_Draised:Value} {dc_Draised:Value} {pm_Draised:Value} {cd_Draised:Value} {ct_Draised:Value} {od_Draised:Option Addr} {an_Draised:Option Addr} {sl_Draised:Array (Option Value)} {f_MFewest_none:Addr} {oc_MFewest_none:Value} {kV_MFewest_none:Value} {dc_MFewest_none:Value} {pm_MFewest_none:Value} {cd_MFewest_none:Value} {ct_MFewest_none:Value} {od_MFewest_none:Option Addr} {an_MFewest_none:Option Addr} {sl_MFewest_none:Array (Option Value)} {f_MWidest_none:Addr} {oc_MWidest_none:Value} {kV_MWidest_none:Value} {dc_MWidest_none:Value} {pm_MWidest_none:Value} {cd_MWidest_none:Value} {ct_MWidest_none:Value} {od_MWidest_none:Option Addr} {an_MWidest_none:Option Addr} {sl_MWidest_none:Array (Option Value)} {f_MCounted_none:Addr} {oc_MCounted_none:Value} {kV_MCounted_none:Value} {dc_MCounted_none:Value} {pm_MCounted_none:Value} {cd_MCounted_none:Value} {ct_MCounted_none:Value} {od_MCounted_none:Option Addr} {an_MCounted_none:Option Addr} {sl_MCounted_none:Array (Option Value)} {f_MLikeliest_none:Addr} {oc_MLikeliest_none:Value} {kV_MLikeliest_none:Value} {dc_MLikeliest_none:Value} {pm_MLikeliest_none:Value} {cd_MLikeliest_none:Value} {ct_MLikeliest_none:Value} {od_MLikeliest_none:Option Addr} {an_MLikeliest_none:Option Addr} {sl_MLikeliest_none:Array (Option Value)} {f_MChances_none:Addr} {oc_MChances_none:Value} {kV_MChances_none:Value} {dc_MChances_none:Value} {pm_MChances_none:Value} {cd_MChances_none:Value} {ct_MChances_none:Value} {od_MChances_none:Option Addr} {an_MChances_none:Option Addr} {sl_MChances_none:Array (Option Value)} {f_MMusts_none:Addr} {oc_MMusts_none:Value} {kV_MMusts_none:Value} {dc_MMusts_none:Value} {pm_MMusts_none:Value} {cd_MMusts_none:Value} {ct_MMusts_none:Value} {od_MMusts_none:Option Addr} {an_MMusts_none:Option Addr} {sl_MMusts_none:Array (Option Value)} {f_MRests_none:Addr} {oc_MRests_none:Value} {kV_MRests_none:Value} {dc_MRests_none:Value} {pm_MRests_none:Value} {cd_MRests_none:Value} {ct_MRests_none:Value} {od_MRests_none:Option Addr} {an_MRests_none:Option Addr} {sl_MRests_none:Array (Option Value)} {f_MFewest_rest:Addr} {oc_MFewest_rest:Value} {kV_MFewest_rest:Value} {dc_MFewest_rest:Value} {pm_MFewest_rest:Value} {cd_MFewest_rest:Value} {ct_MFewest_rest:Value} {od_MFewest_rest:Option Addr} {an_MFewest_rest:Option Addr} {sl_MFewest_rest:Array (Option Value)} {f_MWidest_rest:Addr} {oc_MWidest_rest:Value} {kV_MWidest_rest:Value} {dc_MWidest_rest:Value} {pm_MWidest_rest:Value} {cd_MWidest_rest:Value} {ct_MWidest_rest:Value} {od_MWidest_rest:Option Addr} {an_MWidest_rest:Option Addr} {sl_MWidest_rest:Array (Option Value)} {f_MCounted_rest:Addr} {oc_MCounted_rest:Value} {kV_MCounted_rest:Value} {dc_MCounted_rest:Value} {pm_MCounted_rest:Value} {cd_MCounted_rest:Value} {ct_MCounted_rest:Value} {od_MCounted_rest:Option Addr} {an_MCounted_rest:Option Addr} {sl_MCounted_rest:Array (Option Value)} {f_MLikeliest_rest:Addr} {oc_MLikeliest_rest:Value} {kV_MLikeliest_rest:Value} {dc_MLikeliest_rest:Value} {pm_MLikeliest_rest:Value} {cd_MLikeliest_rest:Value} {ct_MLikeliest_rest:Value} {od_MLikeliest_rest:Option Addr} {an_MLikeliest_rest:Option Addr} {sl_MLikeliest_rest:Array (Option Value)} {f_MChances_rest:Addr} {oc_MChances_rest:Value} {kV_MChances_rest:Value} {dc_MChances_rest:Value} {pm_MChances_rest:Value} {cd_MChances_rest:Value} {ct_MChances_rest:Value} {od_MChances_rest:Option Addr} {an_MChances_rest:Option Addr} {sl_MChances_rest:Array (Option Value)} {f_MMusts_rest:Addr} {oc_MMusts_rest:Value} {kV_MMusts_rest:Value} {dc_MMusts_rest:Value} {pm_MMusts_rest:Value} {cd_MMusts_rest:Value} {ct_MMusts_rest:Value} {od_MMusts_rest:Option Addr} {an_MMusts_rest:Option Addr} {sl_MMusts_rest:Array (Option Value)} {f_MRests_rest:Addr} {oc_MRests_rest:Value} {kV_MRests_rest:Value} {dc_MRests_rest:Value} {pm_MRests_rest:Value} {cd_MRests_rest:Value} {ct_MRests_rest:Value} {od_MRests_rest:Option Addr} {an_MRests_rest:Option Addr} {sl_MRests_rest:Array (Option Value)} {f_MFewest_together:Addr} {oc_MFewest_together:Value} {kV_MFewest_together:Value} {dc_MFewest_together:Value} {pm_MFewest_together:Value} {cd_MFewest_together:Value} {ct_MFewest_together:Value} {od_MFewest_together:Option Addr} {an_MFewest_together:Option Addr} {sl_MFewest_together:Array (Option Value)} {f_MWidest_together:Addr} {oc_MWidest_together:Value} {kV_MWidest_together:Value} {dc_MWidest_together:Value} {pm_MWidest_together:Value} {cd_MWidest_together:Value} {ct_MWidest_together:Value} {od_MWidest_together:Option Addr} {an_MWidest_together:Option Addr} {sl_MWidest_together:Array (Option Value)} {f_MCounted_together:Addr} {oc_MCounted_together:Value} {kV_MCounted_together:Value} {dc_MCounted_together:Value} {pm_MCounted_together:Value} {cd_MCounted_together:Value} {ct_MCounted_together:Value} {od_MCounted_together:Option Addr} {an_MCounted_together:Option Addr} {sl_MCounted_together:Array (Option Value)} {f_MLikeliest_together:Addr} {oc_MLikeliest_together:Value} {kV_MLikeliest_together:Value} {dc_MLikeliest_together:Value} {pm_MLikeliest_together:Value} {cd_MLikeliest_together:Value} {ct_MLikeliest_together:Value} {od_MLikeliest_together:Option Addr} {an_MLikeliest_together:Option Addr} {sl_MLikeliest_together:Array (Option Value)} {f_MChances_together:Addr} {oc_MChances_together:Value} {kV_MChances_together:Value} {dc_MChances_together:Value} {pm_MChances_together:Value} {cd_MChances_together:Value} {ct_MChances_together:Value} {od_MChances_together:Option Addr} {an_MChances_together:Option Addr} {sl_MChances_together:Array (Option Value)} {f_MMusts_together:Addr} {oc_MMusts_together:Value} {kV_MMusts_together:Value} {dc_MMusts_together:Value} {pm_MMusts_together:Value} {cd_MMusts_together:Value} {ct_MMusts_together:Value} {od_MMusts_together:Option Addr} {an_MMusts_together:Option Addr} {sl_MMusts_together:Array (Option Value)} {f_MRests_together:Addr} {oc_MRests_together:Value} {kV_MRests_together:Value} {dc_MRests_together:Value} {pm_MRests_together:Value} {cd_MRests_together:Value} {ct_MRests_together:Value} {od_MRests_together:Option Addr} {an_MRests_together:Option Addr} {sl_MRests_together:Array (Option Value)} {f_MFewest_behind:Addr} {oc_MFewest_behind:Value} {kV_MFewest_behind:Value} {dc_MFewest_behind:Value} {pm_MFewest_behind:Value} {cd_MFewest_behind:Value} {ct_MFewest_behind:Value} {od_MFewest_behind:Option Addr} {an_MFewest_behind:Option Addr} {sl_MFewest_behind:Array (Option Value)} {f_MWidest_behind:Addr} {oc_MWidest_behind:Value} {kV_MWidest_behind:Value} {dc_MWidest_behind:Value} {pm_MWidest_behind:Value} {cd_MWidest_behind:Value} {ct_MWidest_behind:Value} {od_MWidest_behind:Option Addr} {an_MWidest_behind:Option Addr} {sl_MWidest_behind:Array (Option Value)} {f_MCounted_behind:Addr} {oc_MCounted_behind:Value} {kV_MCounted_behind:Value} {dc_MCounted_behind:Value} {pm_MCounted_behind:Value} {cd_MCounted_behind:Value} {ct_MCounted_behind:Value} {od_MCounted_behind:Option Addr} {an_MCounted_behind:Option Addr} {sl_MCounted_behind:Array (Option Value)} {f_MLikeliest_behind:Addr} {oc_MLikeliest_behind:Value} {kV_MLikeliest_behind:Value} {dc_MLikeliest_behind:Value} {pm_MLikeliest_behind:Value} {cd_MLikeliest_behind:Value} {ct_MLikeliest_behind:Value} {od_MLikeliest_behind:Option Addr} {an_MLikeliest_behind:Option Addr} {sl_MLikeliest_behind:Array (Option Value)} {f_MChances_behind:Addr} {oc_MChances_behind:Value} {kV_MChances_behind:Value} {dc_MChances_behind:Value} {pm_MChances_behind:Value} {cd_MChances_behind:Value} {ct_MChances_behind:Value} {od_MChances_behind:Option Addr} {an_MChances_behind:Option Addr} {sl_MChances_behind:Array (Option Value)} {f_MMusts_behind:Addr} {oc_MMusts_behind:Value} {kV_MMusts_behind:Value} {dc_MMusts_behind:Value} {pm_MMusts_behind:Value} {cd_MMusts_behind:Value} {ct_MMusts_behind:Value} {od_MMusts_behind:Option Addr} {an_MMusts_behind:Option Addr} {sl_MMusts_behind:Array (Option Value)} {f_MRests_behind:Addr} {oc_MRests_behind:Value} {kV_MRests_behind:Value} {dc_MRests_behind:Value} {pm_MRests_behind:Value} {cd_MRests_behind:Value} {ct_MRests_behind:Value} {od_MRests_behind:Option Addr} {an_MRests_behind:Option Addr} {sl_MRests_behind:Array (Option Value)} {f_Dis_from:Addr} {oc_Dis_from:Value} {kV_Dis_from:Value} {dc_Dis_from:Value} {pm_Dis_from:Value} {cd_Dis_from:Value} {ct_Dis_from:Value} {od_Dis_from:Option Addr} {an_Dis_from:Option Addr} {sl_Dis_from:Array (Option Value)} {f_Dis_share:Addr} {oc_Dis_share:Value} {kV_Dis_share:Value} {dc_Dis_share:Value} {pm_Dis_share:Value} {cd_Dis_share:Value} {ct_Dis_share:Value} {od_Dis_share:Option Addr} {an_Dis_share:Option Addr} {sl_Dis_share:Array (Option Value)} {f_MFewest_is_worth:Addr} {oc_MFewest_is_worth:Value} {kV_MFewest_is_worth:Value} {dc_MFewest_is_worth:Value} {pm_MFewest_is_worth:Value} {cd_MFewest_is_worth:Value} {ct_MFewest_is_worth:Value} {od_MFewest_is_worth:Option Addr} {an_MFewest_is_worth:Option Addr} {sl_MFewest_is_worth:Array (Option Value)} {f_MWidest_is_worth:Addr} {oc_MWidest_is_worth:Value} {kV_MWidest_is_worth:Value} {dc_MWidest_is_worth:Value} {pm_MWidest_is_worth:Value} {cd_MWidest_is_worth:Value} {ct_MWidest_is_worth:Value} {od_MWidest_is_worth:Option Addr} {an_MWidest_is_worth:Option Addr} {sl_MWidest_is_worth:Array (Option Value)} {f_MCounted_is_worth:Addr} {oc_MCounted_is_worth:Value} {kV_MCounted_is_worth:Value} {dc_MCounted_is_worth:Value} {pm_MCounted_is_worth:Value} {cd_MCounted_is_worth:Value} {ct_MCounted_is_worth:Value} {od_MCounted_is_worth:Option Addr} {an_MCounted_is_worth:Option Addr} {sl_MCounted_is_worth:Array (Option Value)} {f_MLikeliest_is_worth:Addr} {oc_MLikeliest_is_worth:Value} {kV_MLikeliest_is_worth:Value} {dc_MLikeliest_is_worth:Value} {pm_MLikeliest_is_worth:Value} {cd_MLikeliest_is_worth:Value} {ct_MLikeliest_is_worth:Value} {od_MLikeliest_is_worth:Option Addr} {an_MLikeliest_is_worth:Option Addr} {sl_MLikeliest_is_worth:Array (Option Value)} {f_MChances_is_worth:Addr} {oc_MChances_is_worth:Value} {kV_MChances_is_worth:Value} {dc_MChances_is_worth:Value} {pm_MChances_is_worth:Value} {cd_MChances_is_worth:Value} {ct_MChances_is_worth:Value} {od_MChances_is_worth:Option Addr} {an_MChances_is_worth:Option Addr} {sl_MChances_is_worth:Array (Option Value)} {f_MMusts_is_worth:Addr} {oc_MMusts_is_worth:Value} {kV_MMusts_is_worth:Value} {dc_MMusts_is_worth:Value} {pm_MMusts_is_worth:Value} {cd_MMusts_is_worth:Value} {ct_MMusts_is_worth:Value} {od_MMusts_is_worth:Option Addr} {an_MMusts_is_worth:Option Addr} {sl_MMusts_is_worth:Array (Option Value)} {f_MRests_is_worth:Addr} {oc_MRests_is_worth:Value} {kV_MRests_is_worth:Value} {dc_MRests_is_worth:Value} {pm_MRests_is_worth:Value} {cd_MRests_is_worth:Value} {ct_MRests_is_worth:Value} {od_MRests_is_worth:Option Addr} {an_MRests_is_worth:Option Addr} {sl_MRests_is_worth:Array (Option Value)} {f_Dcheck_numbers:Addr} {oc_Dcheck_numbers:Value} {kV_Dcheck_numbers:Value} {dc_Dcheck_numbers:Value} {pm_Dcheck_numbers:Value} {cd_Dcheck_numbers:Value} {ct_Dcheck_numbers:Value} {od_Dcheck_numbers:Option Addr} {an_Dcheck_numbers:Option Addr} {sl_Dcheck_numbers:Array (Option Value)} {f_Dcheck_ends:Addr} {oc_Dcheck_ends:Value} {kV_Dcheck_ends:Value} {dc_Dcheck_ends:Value} {pm_Dcheck_ends:Value} {cd_Dcheck_ends:Value} {ct_Dcheck_ends:Value} {od_Dcheck_ends:Option Addr} {an_Dcheck_ends:Option Addr} {sl_Dcheck_ends:Array (Option Value)} {f_MFewest_may_start_together:Addr} {oc_MFewest_may_start_together:Value} {kV_MFewest_may_start_together:Value} {dc_MFewest_may_start_together:Value} {pm_MFewest_may_start_together:Value} {cd_MFewest_may_start_together:Value} {ct_MFewest_may_start_together:Value} {od_MFewest_may_start_together:Option Addr} {an_MFewest_may_start_together:Option Addr} {sl_MFewest_may_start_together:Array (Option Value)} {f_MWidest_may_start_together:Addr} {oc_MWidest_may_start_together:Value} {kV_MWidest_may_start_together:Value} {dc_MWidest_may_start_together:Value} {pm_MWidest_may_start_together:Value} {cd_MWidest_may_start_together:Value} {ct_MWidest_may_start_together:Value} {od_MWidest_may_start_together:Option Addr} {an_MWidest_may_start_together:Option Addr} {sl_MWidest_may_start_together:Array (Option Value)} {f_MCounted_may_start_together:Addr} {oc_MCounted_may_start_together:Value} {kV_MCounted_may_start_together:Value} {dc_MCounted_may_start_together:Value} {pm_MCounted_may_start_together:Value} {cd_MCounted_may_start_together:Value} {ct_MCounted_may_start_together:Value} {od_MCounted_may_start_together:Option Addr} {an_MCounted_may_start_together:Option Addr} {sl_MCounted_may_start_together:Array (Option Value)} {f_MLikeliest_may_start_together:Addr} {oc_MLikeliest_may_start_together:Value} {kV_MLikeliest_may_start_together:Value} {dc_MLikeliest_may_start_together:Value} {pm_MLikeliest_may_start_together:Value} {cd_MLikeliest_may_start_together:Value} {ct_MLikeliest_may_start_together:Value} {od_MLikeliest_may_start_together:Option Addr} {an_MLikeliest_may_start_together:Option Addr} {sl_MLikeliest_may_start_together:Array (Option Value)} {f_MChances_may_start_together:Addr} {oc_MChances_may_start_together:Value} {kV_MChances_may_start_together:Value} {dc_MChances_may_start_together:Value} {pm_MChances_may_start_together:Value} {cd_MChances_may_start_together:Value} {ct_MChances_may_start_together:Value} {od_MChances_may_start_together:Option Addr} {an_MChances_may_start_together:Option Addr} {sl_MChances_may_start_together:Array (Option Value)} {f_MMusts_may_start_together:Addr} {oc_MMusts_may_start_together:Value} {kV_MMusts_may_start_together:Value} {dc_MMusts_may_start_together:Value} {pm_MMusts_may_start_together:Value} {cd_MMusts_may_start_together:Value} {ct_MMusts_may_start_together:Value} {od_MMusts_may_start_together:Option Addr} {an_MMusts_may_start_together:Option Addr} {sl_MMusts_may_start_together:Array (Option Value)} {f_MRests_may_start_together:Addr} {oc_MRests_may_start_together:Value} {kV_MRests_may_start_together:Value} {dc_MRests_may_start_together:Value} {pm_MRests_may_start_together:Value} {cd_MRests_may_start_together:Value} {ct_MRests_may_start_together:Value} {od_MRests_may_start_together:Option Addr} {an_MRests_may_start_together:Option Addr} {sl_MRests_may_start_together:Array (Option Value)} {f_Dcheck_starts:Addr} {oc_Dcheck_starts:Value} {kV_Dcheck_starts:Value} {dc_Dcheck_starts:Value} {pm_Dcheck_starts:Value} {cd_Dcheck_starts:Value} {ct_Dcheck_starts:Value} {od_Dcheck_starts:Option Addr} {an_Dcheck_starts:Option Addr} {sl_Dcheck_starts:Array (Option Value)} {f_Dcheck_worths:Addr} {oc_Dcheck_worths:Value} {kV_Dcheck_worths:Value} {dc_Dcheck_worths:Value} {pm_Dcheck_worths:Value} {cd_Dcheck_worths:Value} {ct_Dcheck_worths:Value} {od_Dcheck_worths:Option Addr} {an_Dcheck_worths:Option Addr} {sl_Dcheck_worths:Array (Option Value)} {f_MNet_init:Addr} {oc_MNet_init:Value} {kV_MNet_init:Value} {dc_MNet_init:Value} {pm_MNet_init:Value} {cd_MNet_init:Value} {ct_MNet_init:Value} {od_MNet_init:Option Addr} {an_MNet_init:Option Addr} {sl_MNet_init:Array (Option Value)} {f_MNet_kind:Addr} {oc_MNet_kind:Value} {kV_MNet_kind:Value} {dc_MNet_kind:Value} {pm_MNet_kind:Value} {cd_MNet_kind:Value} {ct_MNet_kind:Value} {od_MNet_kind:Option Addr} {an_MNet_kind:Option Addr} {sl_MNet_kind:Array (Option Value)} {f_MNet_places:Addr} {oc_MNet_places:Value} {kV_MNet_places:Value} {dc_MNet_places:Value} {pm_MNet_places:Value} {cd_MNet_places:Value} {ct_MNet_places:Value} {od_MNet_places:Option Addr} {an_MNet_places:Option Addr} {sl_MNet_places:Array (Option Value)} {f_MNet_roads:Addr} {oc_MNet_roads:Value} {kV_MNet_roads:Value} {dc_MNet_roads:Value} {pm_MNet_roads:Value} {cd_MNet_roads:Value} {ct_MNet_roads:Value} {od_MNet_roads:Option Addr} {an_MNet_roads:Option Addr} {sl_MNet_roads:Array (Option Value)} {f_Dlaw_tog:Addr} {oc_Dlaw_tog:Value} {kV_Dlaw_tog:Value} {dc_Dlaw_tog:Value} {pm_Dlaw_tog:Value} {cd_Dlaw_tog:Value} {ct_Dlaw_tog:Value} {od_Dlaw_tog:Option Addr} {an_Dlaw_tog:Option Addr} {sl_Dlaw_tog:Array (Option Value)} {f_Dlaw_beh:Addr} {oc_Dlaw_beh:Value} {kV_Dlaw_beh:Value} {dc_Dlaw_beh:Value} {pm_Dlaw_beh:Value} {cd_Dlaw_beh:Value} {ct_Dlaw_beh:Value} {od_Dlaw_beh:Option Addr} {an_Dlaw_beh:Option Addr} {sl_Dlaw_beh:Array (Option Value)} {f_Dlaw_whole:Addr} {oc_Dlaw_whole:Value} {kV_Dlaw_whole:Value} {dc_Dlaw_whole:Value} {pm_Dlaw_whole:Value} {cd_Dlaw_whole:Value} {ct_Dlaw_whole:Value} {od_Dlaw_whole:Option Addr} {an_Dlaw_whole:Option Addr} {sl_Dlaw_whole:Array (Option Value)} {f_Dlaw_thinned:Addr} {oc_Dlaw_thinned:Value} {kV_Dlaw_thinned:Value} {dc_Dlaw_thinned:Value} {pm_Dlaw_thinned:Value} {cd_Dlaw_thinned:Value} {ct_Dlaw_thinned:Value} {od_Dlaw_thinned:Option Addr} {an_Dlaw_thinned:Option Addr} {sl_Dlaw_thinned:Array (Option Value)} {f_Dlaw_net:Addr} {oc_Dlaw_net:Value} {kV_Dlaw_net:Value} {dc_Dlaw_net:Value} {pm_Dlaw_net:Value} {cd_Dlaw_net:Value} {ct_Dlaw_net:Value} {od_Dlaw_net:Option Addr} {an_Dlaw_net:Option Addr} {sl_Dlaw_net:Array (Option Value)} {f_Dcheck_place:Addr} {oc_Dcheck_place:Value} {kV_Dcheck_place:Value} {dc_Dcheck_place:Value} {pm_Dcheck_place:Value} {cd_Dcheck_place:Value} {ct_Dcheck_place:Value} {od_Dcheck_place:Option Addr} {an_Dcheck_place:Option Addr} {sl_Dcheck_place:Array (Option Value)} {f_Dlaw_steps:Addr} {oc_Dlaw_steps:Value} {kV_Dlaw_steps:Value} {dc_Dlaw_steps:Value} {pm_Dlaw_steps:Value} {cd_Dlaw_steps:Value} {ct_Dlaw_steps:Value} {od_Dlaw_steps:Option Addr} {an_Dlaw_steps:Option Addr} {sl_Dlaw_steps:Array (Option Value)} {f_Dbetters:Addr} {oc_Dbetters:Value} {kV_Dbetters:Value} {dc_Dbetters:Value} {pm_Dbetters:Value} {cd_Dbetters:Value} {ct_Dbetters:Value} {od_Dbetters:Option Addr} {an_Dbetters:Option Addr} {sl_Dbetters:Array (Option Value)} {f_Dbest_place:Addr} {oc_Dbest_place:Value} {kV_Dbest_place:Value} {dc_Dbest_place:Value} {pm_Dbest_place:Value} {cd_Dbest_place:Value} {ct_Dbest_place:Value} {od_Dbest_place:Option Addr} {an_Dbest_place:Option Addr} {sl_Dbest_place:Array (Option Value)} {f_Doffer:Addr} {oc_Doffer:Value} {kV_Doffer:Value} {dc_Doffer:Value} {pm_Doffer:Value} {cd_Doffer:Value} {ct_Doffer:Value} {od_Doffer:Option Addr} {an_Doffer:Option Addr} {sl_Doffer:Array (Option Value)} {f_Dbest_ways:Addr} {oc_Dbest_ways:Value} {kV_Dbest_ways:Value} {dc_Dbest_ways:Value} {pm_Dbest_ways:Value} {cd_Dbest_ways:Value} {ct_Dbest_ways:Value} {od_Dbest_ways:Option Addr} {an_Dbest_ways:Option Addr} {sl_Dbest_ways:Array (Option Value)} {f_MFewest_picks:Addr} {oc_MFewest_picks:Value} {kV_MFewest_picks:Value} {dc_MFewest_picks:Value} {pm_MFewest_picks:Value} {cd_MFewest_picks:Value} {ct_MFewest_picks:Value} {od_MFewest_picks:Option Addr} {an_MFewest_picks:Option Addr} {sl_MFewest_picks:Array (Option Value)} {f_MWidest_picks:Addr} {oc_MWidest_picks:Value} {kV_MWidest_picks:Value} {dc_MWidest_picks:Value} {pm_MWidest_picks:Value} {cd_MWidest_picks:Value} {ct_MWidest_picks:Value} {od_MWidest_picks:Option Addr} {an_MWidest_picks:Option Addr} {sl_MWidest_picks:Array (Option Value)} {f_MCounted_picks:Addr} {oc_MCounted_picks:Value} {kV_MCounted_picks:Value} {dc_MCounted_picks:Value} {pm_MCounted_picks:Value} {cd_MCounted_picks:Value} {ct_MCounted_picks:Value} {od_MCounted_picks:Option Addr} {an_MCounted_picks:Option Addr} {sl_MCounted_picks:Array (Option Value)} {f_MLikeliest_picks:Addr} {oc_MLikeliest_picks:Value} {kV_MLikeliest_picks:Value} {dc_MLikeliest_picks:Value} {pm_MLikeliest_picks:Value} {cd_MLikeliest_picks:Value} {ct_MLikeliest_picks:Value} {od_MLikeliest_picks:Option Addr} {an_MLikeliest_picks:Option Addr} {sl_MLikeliest_picks:Array (Option Value)} {f_MChances_picks:Addr} {oc_MChances_picks:Value} {kV_MChances_picks:Value} {dc_MChances_picks:Value} {pm_MChances_picks:Value} {cd_MChances_picks:Value} {ct_MChances_picks:Value} {od_MChances_picks:Option Addr} {an_MChances_picks:Option Addr} {sl_MChances_picks:Array (Option Value)} {f_MMusts_picks:Addr} {oc_MMusts_picks:Value} {kV_MMusts_picks:Value} {dc_MMusts_picks:Value} {pm_MMusts_picks:Value} {cd_MMusts_picks:Value} {ct_MMusts_picks:Value} {od_MMusts_picks:Option Addr} {an_MMusts_picks:Option Addr} {sl_MMusts_picks:Array (Option Value)} {f_MRests_picks:Addr} {oc_MRests_picks:Value} {kV_MRests_picks:Value} {dc_MRests_picks:Value} {pm_MRests_picks:Value} {cd_MRests_picks:Value} {ct_MRests_picks:Value} {od_MRests_picks:Option Addr} {an_MRests_picks:Option Addr} {sl_MRests_picks:Array (Option Value)} {f_Dway_for:Addr} {oc_Dway_for:Value} {kV_Dway_for:Value} {dc_Dway_for:Value} {pm_Dway_for:Value} {cd_Dway_for:Value} {ct_Dway_for:Value} {od_Dway_for:Option Addr} {an_Dway_for:Option Addr} {sl_Dway_for:Array (Option Value)} {f_Dlaw_walked:Addr} {oc_Dlaw_walked:Value} {kV_Dlaw_walked:Value} {dc_Dlaw_walked:Value} {pm_Dlaw_walked:Value} {cd_Dlaw_walked:Value} {ct_Dlaw_walked:Value} {od_Dlaw_walked:Option Addr} {an_Dlaw_walked:Option Addr} {sl_Dlaw_walked:Array (Option Value)} {f_Dlaw_refused:Addr} {oc_Dlaw_refused:Value} {kV_Dlaw_refused:Value} {dc_Dlaw_refused:Value} {pm_Dlaw_refused:Value} {cd_Dlaw_refused:Value} {ct_Dlaw_refused:Value} {od_Dlaw_refused:Option Addr} {an_Dlaw_refused:Option Addr} {sl_Dlaw_refused:Array (Option Value)} {f_Dlaw:Addr} {oc_Dlaw:Value} {kV_Dlaw:Value} {dc_Dlaw:Value} {pm_Dlaw:Value} {cd_Dlaw:Value} {ct_Dlaw:Value} {od_Dlaw:Option Addr} {an_Dlaw:Option Addr} {sl_Dlaw:Array (Option Value)}
    (g_SumError:PySem.W.nsIn K mainGlobals "SumError"=some (some (.ref c_SumError)))
    (g_NoNet:PySem.W.nsIn K mainGlobals "NoNet"=some (some (.ref c_NoNet)))
    (g_NoWorth:PySem.W.nsIn K mainGlobals "NoWorth"=some (some (.ref c_NoWorth)))
    (g_NoPlace:PySem.W.nsIn K mainGlobals "NoPlace"=some (some (.ref c_NoPlace)))
    (g_NoPick:PySem.W.nsIn K mainGlobals "NoPick"=some (some (.ref c_NoPick)))
    (g_NoWay:PySem.W.nsIn K mainGlobals "NoWay"=some (some (.ref c_NoWay)))
    (g_Net:PySem.W.nsIn K mainGlobals "Net"=some (some (.ref c_Net)))
    (g_Kind:PySem.W.nsIn K mainGlobals "Kind"=some (some (.ref c_Kind)))
    (g_Fewest:PySem.W.nsIn K mainGlobals "Fewest"=some (some (.ref c_Fewest)))
    (g_Widest:PySem.W.nsIn K mainGlobals "Widest"=some (some (.ref c_Widest)))
    (g_Counted:PySem.W.nsIn K mainGlobals "Counted"=some (some (.ref c_Counted)))
    (g_Likeliest:PySem.W.nsIn K mainGlobals "Likeliest"=some (some (.ref c_Likeliest)))
    (g_Chances:PySem.W.nsIn K mainGlobals "Chances"=some (some (.ref c_Chances)))
    (g_Musts:PySem.W.nsIn K mainGlobals "Musts"=some (some (.ref c_Musts)))
    (g_Rests:PySem.W.nsIn K mainGlobals "Rests"=some (some (.ref c_Rests)))
    (g_MOST_PLACES:PySem.W.nsIn K mainGlobals "MOST_PLACES"=some (some (.int 8 t_MOST_PLACES)))
    (g_MOST_ROADS:PySem.W.nsIn K mainGlobals "MOST_ROADS"=some (some (.int 64 t_MOST_ROADS)))
    (g_WIDEST:PySem.W.nsIn K mainGlobals "WIDEST"=some (some (.int 1000000000 t_WIDEST)))
    (g_MOST_RESTS:PySem.W.nsIn K mainGlobals "MOST_RESTS"=some (some (.int 12 t_MOST_RESTS)))
    (z_isinstance:PySem.W.nsIn K mainGlobals "isinstance"=some none)
    (z_len:PySem.W.nsIn K mainGlobals "len"=some none)
    (z_int:PySem.W.nsIn K mainGlobals "int"=some none)
    (z_bool:PySem.W.nsIn K mainGlobals "bool"=some none)
    (z_tuple:PySem.W.nsIn K mainGlobals "tuple"=some none)
    (z_list:PySem.W.nsIn K mainGlobals "list"=some none)
    (z_ValueError:PySem.W.nsIn K mainGlobals "ValueError"=some none)
    (z_range:PySem.W.nsIn K mainGlobals "range"=some none)
    (z_min:PySem.W.nsIn K mainGlobals "min"=some none)
    (z_max:PySem.W.nsIn K mainGlobals "max"=some none)
    (z_enumerate:PySem.W.nsIn K mainGlobals "enumerate"=some none)
    (xo_NoNet:PySem.W.excIn K c_NoNet bmV "ValueError.__new__"=true)
    (xa_NoNet:(PySem.W.clsIn K c_NoNet).isSome=true)
    (xb_NoNet:PySem.W.findIn K (.ref c_NoNet) "__getattribute__"=some (some (.builtin "BaseException.__getattribute__")))
    (xc_NoNet:PySem.W.findIn K (.ref c_NoNet) "__getattr__"=some none)
    (xd_NoNet:PySem.W.findIn K (.ref c_NoNet) "__class__"=some (some (.builtin "object.__class__")))
    (xe_NoNet:PySem.W.subIn K (.ref c_NoNet) (.type "BaseException")=some true)
    (xf_NoNet:PySem.W.subIn K (.ref c_NoNet) (.type "object")=some true)
    (xm_NoNet_SumError:PySem.W.exmOne K (.ref c_NoNet) (.ref c_SumError)=some true)
    (kt_NoNet_NoWay:PySem.W.kitOne K (.ref c_NoNet) (.ref c_NoWay)=some false)
    (kt_NoNet_ValueError:PySem.W.kitOne K (.ref c_NoNet) (.type "ValueError")=some true)
    (xo_NoPick:PySem.W.excIn K c_NoPick bmV "ValueError.__new__"=true)
    (xa_NoPick:(PySem.W.clsIn K c_NoPick).isSome=true)
    (xb_NoPick:PySem.W.findIn K (.ref c_NoPick) "__getattribute__"=some (some (.builtin "BaseException.__getattribute__")))
    (xc_NoPick:PySem.W.findIn K (.ref c_NoPick) "__getattr__"=some none)
    (xd_NoPick:PySem.W.findIn K (.ref c_NoPick) "__class__"=some (some (.builtin "object.__class__")))
    (xe_NoPick:PySem.W.subIn K (.ref c_NoPick) (.type "BaseException")=some true)
    (xf_NoPick:PySem.W.subIn K (.ref c_NoPick) (.type "object")=some true)
    (xm_NoPick_SumError:PySem.W.exmOne K (.ref c_NoPick) (.ref c_SumError)=some true)
    (kt_NoPick_NoWay:PySem.W.kitOne K (.ref c_NoPick) (.ref c_NoWay)=some false)
    (kt_NoPick_ValueError:PySem.W.kitOne K (.ref c_NoPick) (.type "ValueError")=some true)
    (xo_NoPlace:PySem.W.excIn K c_NoPlace bmV "ValueError.__new__"=true)
    (xa_NoPlace:(PySem.W.clsIn K c_NoPlace).isSome=true)
    (xb_NoPlace:PySem.W.findIn K (.ref c_NoPlace) "__getattribute__"=some (some (.builtin "BaseException.__getattribute__")))
    (xc_NoPlace:PySem.W.findIn K (.ref c_NoPlace) "__getattr__"=some none)
    (xd_NoPlace:PySem.W.findIn K (.ref c_NoPlace) "__class__"=some (some (.builtin "object.__class__")))
    (xe_NoPlace:PySem.W.subIn K (.ref c_NoPlace) (.type "BaseException")=some true)
    (xf_NoPlace:PySem.W.subIn K (.ref c_NoPlace) (.type "object")=some true)
    (xm_NoPlace_SumError:PySem.W.exmOne K (.ref c_NoPlace) (.ref c_SumError)=some true)
    (kt_NoPlace_NoWay:PySem.W.kitOne K (.ref c_NoPlace) (.ref c_NoWay)=some false)
    (kt_NoPlace_ValueError:PySem.W.kitOne K (.ref c_NoPlace) (.type "ValueError")=some true)
    (xo_NoWay:PySem.W.excIn K c_NoWay bmV "ValueError.__new__"=true)
    (xa_NoWay:(PySem.W.clsIn K c_NoWay).isSome=true)
    (xb_NoWay:PySem.W.findIn K (.ref c_NoWay) "__getattribute__"=some (some (.builtin "BaseException.__getattribute__")))
    (xc_NoWay:PySem.W.findIn K (.ref c_NoWay) "__getattr__"=some none)
    (xd_NoWay:PySem.W.findIn K (.ref c_NoWay) "__class__"=some (some (.builtin "object.__class__")))
    (xe_NoWay:PySem.W.subIn K (.ref c_NoWay) (.type "BaseException")=some true)
    (xf_NoWay:PySem.W.subIn K (.ref c_NoWay) (.type "object")=some true)
    (xm_NoWay_SumError:PySem.W.exmOne K (.ref c_NoWay) (.ref c_SumError)=some true)
    (kt_NoWay_ValueError:PySem.W.kitOne K (.ref c_NoWay) (.type "ValueError")=some true)
    (xo_NoWorth:PySem.W.excIn K c_NoWorth bmV "ValueError.__new__"=true)
    (xa_NoWorth:(PySem.W.clsIn K c_NoWorth).isSome=true)
    (xb_NoWorth:PySem.W.findIn K (.ref c_NoWorth) "__getattribute__"=some (some (.builtin "BaseException.__getattribute__")))
    (xc_NoWorth:PySem.W.findIn K (.ref c_NoWorth) "__getattr__"=some none)
    (xd_NoWorth:PySem.W.findIn K (.ref c_NoWorth) "__class__"=some (some (.builtin "object.__class__")))
    (xe_NoWorth:PySem.W.subIn K (.ref c_NoWorth) (.type "BaseException")=some true)
    (xf_NoWorth:PySem.W.subIn K (.ref c_NoWorth) (.type "object")=some true)
    (xm_NoWorth_SumError:PySem.W.exmOne K (.ref c_NoWorth) (.ref c_SumError)=some true)
    (kt_NoWorth_NoWay:PySem.W.kitOne K (.ref c_NoWorth) (.ref c_NoWay)=some false)
    (kt_NoWorth_ValueError:PySem.W.kitOne K (.ref c_NoWorth) (.type "ValueError")=some true)
    (mk_Net:PySem.W.makesIn K c_Net=true)
    (kp_Net:PySem.W.keepIn K (.ref c_Net)=true)
    (na_Net_own_kind:PySem.W.findIn K (.ref c_Net) "own_kind"=some none)
    (na_Net_how_many:PySem.W.findIn K (.ref c_Net) "how_many"=some none)
    (na_Net_own_roads:PySem.W.findIn K (.ref c_Net) "own_roads"=some none)
    (pg_Net:PySem.W.plainGet K c_Net Str.empty=true)
    (hd_Net:PySem.W.hasDictIn K c_Net=true)
    (po_Net:PySem.W.plainOver K c_Net=true)
    (sa_Net:PySem.W.findIn K (.ref c_Net) "__setattr__"=some (some (.builtin "object.__setattr__")))
    (mk_Fewest:PySem.W.makesIn K c_Fewest=true)
    (in_Fewest:PySem.W.findIn K (.ref c_Fewest) "__init__"=some (some (.builtin "object.__init__")))
    (kp_Fewest:PySem.W.keepIn K (.ref c_Fewest)=true)
    (mk_Widest:PySem.W.makesIn K c_Widest=true)
    (in_Widest:PySem.W.findIn K (.ref c_Widest) "__init__"=some (some (.builtin "object.__init__")))
    (kp_Widest:PySem.W.keepIn K (.ref c_Widest)=true)
    (mk_Counted:PySem.W.makesIn K c_Counted=true)
    (in_Counted:PySem.W.findIn K (.ref c_Counted) "__init__"=some (some (.builtin "object.__init__")))
    (kp_Counted:PySem.W.keepIn K (.ref c_Counted)=true)
    (mk_Likeliest:PySem.W.makesIn K c_Likeliest=true)
    (in_Likeliest:PySem.W.findIn K (.ref c_Likeliest) "__init__"=some (some (.builtin "object.__init__")))
    (kp_Likeliest:PySem.W.keepIn K (.ref c_Likeliest)=true)
    (mk_Chances:PySem.W.makesIn K c_Chances=true)
    (in_Chances:PySem.W.findIn K (.ref c_Chances) "__init__"=some (some (.builtin "object.__init__")))
    (kp_Chances:PySem.W.keepIn K (.ref c_Chances)=true)
    (mk_Musts:PySem.W.makesIn K c_Musts=true)
    (in_Musts:PySem.W.findIn K (.ref c_Musts) "__init__"=some (some (.builtin "object.__init__")))
    (kp_Musts:PySem.W.keepIn K (.ref c_Musts)=true)
    (mk_Rests:PySem.W.makesIn K c_Rests=true)
    (kp_Rests:PySem.W.keepIn K (.ref c_Rests)=true)
    (na_Rests_m:PySem.W.findIn K (.ref c_Rests) "m"=some none)
    (pg_Fewest:PySem.W.plainGet K c_Fewest Str.empty=true)
    (hd_Fewest:PySem.W.hasDictIn K c_Fewest=true)
    (po_Fewest:PySem.W.plainOver K c_Fewest=true)
    (sa_Fewest:PySem.W.findIn K (.ref c_Fewest) "__setattr__"=some (some (.builtin "object.__setattr__")))
    (pg_Widest:PySem.W.plainGet K c_Widest Str.empty=true)
    (hd_Widest:PySem.W.hasDictIn K c_Widest=true)
    (po_Widest:PySem.W.plainOver K c_Widest=true)
    (sa_Widest:PySem.W.findIn K (.ref c_Widest) "__setattr__"=some (some (.builtin "object.__setattr__")))
    (pg_Counted:PySem.W.plainGet K c_Counted Str.empty=true)
    (hd_Counted:PySem.W.hasDictIn K c_Counted=true)
    (po_Counted:PySem.W.plainOver K c_Counted=true)
    (sa_Counted:PySem.W.findIn K (.ref c_Counted) "__setattr__"=some (some (.builtin "object.__setattr__")))
    (pg_Likeliest:PySem.W.plainGet K c_Likeliest Str.empty=true)
    (hd_Likeliest:PySem.W.hasDictIn K c_Likeliest=true)
    (po_Likeliest:PySem.W.plainOver K c_Likeliest=true)
    (sa_Likeliest:PySem.W.findIn K (.ref c_Likeliest) "__setattr__"=some (some (.builtin "object.__setattr__")))
    (pg_Chances:PySem.W.plainGet K c_Chances Str.empty=true)
    (hd_Chances:PySem.W.hasDictIn K c_Chances=true)
    (po_Chances:PySem.W.plainOver K c_Chances=true)
    (sa_Chances:PySem.W.findIn K (.ref c_Chances) "__setattr__"=some (some (.builtin "object.__setattr__")))
    (pg_Musts:PySem.W.plainGet K c_Musts Str.empty=true)
    (hd_Musts:PySem.W.hasDictIn K c_Musts=true)
    (po_Musts:PySem.W.plainOver K c_Musts=true)
    (sa_Musts:PySem.W.findIn K (.ref c_Musts) "__setattr__"=some (some (.builtin "object.__setattr__")))
    (pg_Rests:PySem.W.plainGet K c_Rests Str.empty=true)
    (hd_Rests:PySem.W.hasDictIn K c_Rests=true)
    (po_Rests:PySem.W.plainOver K c_Rests=true)
    (sa_Rests:PySem.W.findIn K (.ref c_Rests) "__setattr__"=some (some (.builtin "object.__setattr__")))
    (a_Ddivisor:PySem.W.nsIn K mainGlobals "divisor"=some (some (.ref f_Ddivisor)))
    (l_Ddivisor:K.lookup f_Ddivisor=some ⟨oc_Ddivisor,od_Ddivisor,.func (PySem.W.fnOf "divisor" "divisor" (defArgs (top 24)) (defBody (top 24)) (defScope (top 24)) .none kV_Ddivisor dc_Ddivisor pm_Ddivisor an_Ddivisor cd_Ddivisor ct_Ddivisor),sl_Ddivisor⟩)
    (c_Ddivisor_:PySem.W.codeIn K cd_Ddivisor "divisor"=true)
    (k_Ddivisor:PySem.W.keepIn K (.ref f_Ddivisor)=true)
    (a_MRests_init:PySem.W.findIn K (.ref c_Rests) "__init__"=some (some (.ref f_MRests_init)))
    (i_MRests_init:PySem.W.isFn K (.ref f_MRests_init)=true)
    (l_MRests_init:K.lookup f_MRests_init=some ⟨oc_MRests_init,od_MRests_init,.func (PySem.W.fnOf "__init__" "Rests.__init__" (defArgs (inClass (top 43) 0)) (defBody (inClass (top 43) 0)) (defScope (inClass (top 43) 0)) .none kV_MRests_init dc_MRests_init pm_MRests_init an_MRests_init cd_MRests_init ct_MRests_init),sl_MRests_init⟩)
    (c_MRests_init_:PySem.W.codeIn K cd_MRests_init "Rests.__init__"=true)
    (k_MRests_init:PySem.W.keepIn K (.ref f_MRests_init)=true)
    (a_Dlaw_cell_at:PySem.W.nsIn K mainGlobals "_law_cell_at"=some (some (.ref f_Dlaw_cell_at)))
    (l_Dlaw_cell_at:K.lookup f_Dlaw_cell_at=some ⟨oc_Dlaw_cell_at,od_Dlaw_cell_at,.func (PySem.W.fnOf "_law_cell_at" "_law_cell_at" (defArgs (top 45)) (defBody (top 45)) (defScope (top 45)) .none kV_Dlaw_cell_at dc_Dlaw_cell_at pm_Dlaw_cell_at an_Dlaw_cell_at cd_Dlaw_cell_at ct_Dlaw_cell_at),sl_Dlaw_cell_at⟩)
    (c_Dlaw_cell_at_:PySem.W.codeIn K cd_Dlaw_cell_at "_law_cell_at"=true)
    (k_Dlaw_cell_at:PySem.W.keepIn K (.ref f_Dlaw_cell_at)=true)
    (a_Dlaw_kind:PySem.W.nsIn K mainGlobals "_law_kind"=some (some (.ref f_Dlaw_kind)))
    (l_Dlaw_kind:K.lookup f_Dlaw_kind=some ⟨oc_Dlaw_kind,od_Dlaw_kind,.func (PySem.W.fnOf "_law_kind" "_law_kind" (defArgs (top 47)) (defBody (top 47)) (defScope (top 47)) .none kV_Dlaw_kind dc_Dlaw_kind pm_Dlaw_kind an_Dlaw_kind cd_Dlaw_kind ct_Dlaw_kind),sl_Dlaw_kind⟩)
    (c_Dlaw_kind_:PySem.W.codeIn K cd_Dlaw_kind "_law_kind"=true)
    (k_Dlaw_kind:PySem.W.keepIn K (.ref f_Dlaw_kind)=true)
    (a_Dlaw_share:PySem.W.nsIn K mainGlobals "_law_share"=some (some (.ref f_Dlaw_share)))
    (l_Dlaw_share:K.lookup f_Dlaw_share=some ⟨oc_Dlaw_share,od_Dlaw_share,.func (PySem.W.fnOf "_law_share" "_law_share" (defArgs (top 48)) (defBody (top 48)) (defScope (top 48)) .none kV_Dlaw_share dc_Dlaw_share pm_Dlaw_share an_Dlaw_share cd_Dlaw_share ct_Dlaw_share),sl_Dlaw_share⟩)
    (c_Dlaw_share_:PySem.W.codeIn K cd_Dlaw_share "_law_share"=true)
    (k_Dlaw_share:PySem.W.keepIn K (.ref f_Dlaw_share)=true)
    (a_Dlaw_none:PySem.W.nsIn K mainGlobals "_law_none"=some (some (.ref f_Dlaw_none)))
    (l_Dlaw_none:K.lookup f_Dlaw_none=some ⟨oc_Dlaw_none,od_Dlaw_none,.func (PySem.W.fnOf "_law_none" "_law_none" (defArgs (top 49)) (defBody (top 49)) (defScope (top 49)) .none kV_Dlaw_none dc_Dlaw_none pm_Dlaw_none an_Dlaw_none cd_Dlaw_none ct_Dlaw_none),sl_Dlaw_none⟩)
    (c_Dlaw_none_:PySem.W.codeIn K cd_Dlaw_none "_law_none"=true)
    (k_Dlaw_none:PySem.W.keepIn K (.ref f_Dlaw_none)=true)
    (a_Dlaw_rest:PySem.W.nsIn K mainGlobals "_law_rest"=some (some (.ref f_Dlaw_rest)))
    (l_Dlaw_rest:K.lookup f_Dlaw_rest=some ⟨oc_Dlaw_rest,od_Dlaw_rest,.func (PySem.W.fnOf "_law_rest" "_law_rest" (defArgs (top 50)) (defBody (top 50)) (defScope (top 50)) .none kV_Dlaw_rest dc_Dlaw_rest pm_Dlaw_rest an_Dlaw_rest cd_Dlaw_rest ct_Dlaw_rest),sl_Dlaw_rest⟩)
    (c_Dlaw_rest_:PySem.W.codeIn K cd_Dlaw_rest "_law_rest"=true)
    (k_Dlaw_rest:PySem.W.keepIn K (.ref f_Dlaw_rest)=true)
    (a_Dlaw_worth:PySem.W.nsIn K mainGlobals "_law_worth"=some (some (.ref f_Dlaw_worth)))
    (l_Dlaw_worth:K.lookup f_Dlaw_worth=some ⟨oc_Dlaw_worth,od_Dlaw_worth,.func (PySem.W.fnOf "_law_worth" "_law_worth" (defArgs (top 53)) (defBody (top 53)) (defScope (top 53)) .none kV_Dlaw_worth dc_Dlaw_worth pm_Dlaw_worth an_Dlaw_worth cd_Dlaw_worth ct_Dlaw_worth),sl_Dlaw_worth⟩)
    (c_Dlaw_worth_:PySem.W.codeIn K cd_Dlaw_worth "_law_worth"=true)
    (k_Dlaw_worth:PySem.W.keepIn K (.ref f_Dlaw_worth)=true)
    (a_Dlowest:PySem.W.nsIn K mainGlobals "lowest"=some (some (.ref f_Dlowest)))
    (l_Dlowest:K.lookup f_Dlowest=some ⟨oc_Dlowest,od_Dlowest,.func (PySem.W.fnOf "lowest" "lowest" (defArgs (top 26)) (defBody (top 26)) (defScope (top 26)) .none kV_Dlowest dc_Dlowest pm_Dlowest an_Dlowest cd_Dlowest ct_Dlowest),sl_Dlowest⟩)
    (c_Dlowest_:PySem.W.codeIn K cd_Dlowest "lowest"=true)
    (k_Dlowest:PySem.W.keepIn K (.ref f_Dlowest)=true)
    (a_Dadded:PySem.W.nsIn K mainGlobals "added"=some (some (.ref f_Dadded)))
    (l_Dadded:K.lookup f_Dadded=some ⟨oc_Dadded,od_Dadded,.func (PySem.W.fnOf "added" "added" (defArgs (top 27)) (defBody (top 27)) (defScope (top 27)) .none kV_Dadded dc_Dadded pm_Dadded an_Dadded cd_Dadded ct_Dadded),sl_Dadded⟩)
    (c_Dadded_:PySem.W.codeIn K cd_Dadded "added"=true)
    (k_Dadded:PySem.W.keepIn K (.ref f_Dadded)=true)
    (a_Dmultiplied:PySem.W.nsIn K mainGlobals "multiplied"=some (some (.ref f_Dmultiplied)))
    (l_Dmultiplied:K.lookup f_Dmultiplied=some ⟨oc_Dmultiplied,od_Dmultiplied,.func (PySem.W.fnOf "multiplied" "multiplied" (defArgs (top 28)) (defBody (top 28)) (defScope (top 28)) .none kV_Dmultiplied dc_Dmultiplied pm_Dmultiplied an_Dmultiplied cd_Dmultiplied ct_Dmultiplied),sl_Dmultiplied⟩)
    (c_Dmultiplied_:PySem.W.codeIn K cd_Dmultiplied "multiplied"=true)
    (k_Dmultiplied:PySem.W.keepIn K (.ref f_Dmultiplied)=true)
    (a_Dgreater:PySem.W.nsIn K mainGlobals "greater"=some (some (.ref f_Dgreater)))
    (l_Dgreater:K.lookup f_Dgreater=some ⟨oc_Dgreater,od_Dgreater,.func (PySem.W.fnOf "greater" "greater" (defArgs (top 29)) (defBody (top 29)) (defScope (top 29)) .none kV_Dgreater dc_Dgreater pm_Dgreater an_Dgreater cd_Dgreater ct_Dgreater),sl_Dgreater⟩)
    (c_Dgreater_:PySem.W.codeIn K cd_Dgreater "greater"=true)
    (k_Dgreater:PySem.W.keepIn K (.ref f_Dgreater)=true)
    (a_Dlacking_to_one:PySem.W.nsIn K mainGlobals "lacking_to_one"=some (some (.ref f_Dlacking_to_one)))
    (l_Dlacking_to_one:K.lookup f_Dlacking_to_one=some ⟨oc_Dlacking_to_one,od_Dlacking_to_one,.func (PySem.W.fnOf "lacking_to_one" "lacking_to_one" (defArgs (top 30)) (defBody (top 30)) (defScope (top 30)) .none kV_Dlacking_to_one dc_Dlacking_to_one pm_Dlacking_to_one an_Dlacking_to_one cd_Dlacking_to_one ct_Dlacking_to_one),sl_Dlacking_to_one⟩)
    (c_Dlacking_to_one_:PySem.W.codeIn K cd_Dlacking_to_one "lacking_to_one"=true)
    (k_Dlacking_to_one:PySem.W.keepIn K (.ref f_Dlacking_to_one)=true)
    (a_Draised:PySem.W.nsIn K mainGlobals "raised"=some (some (.ref f_Draised)))
    (l_Draised:K.lookup f_Draised=some ⟨oc_Draised,od_Draised,.func (PySem.W.fnOf "raised" "raised" (defArgs (top 35)) (defBody (top 35)) (defScope (top 35)) .none kV_Draised dc_Draised pm_Draised an_Draised cd_Draised ct_Draised),sl_Draised⟩)
    (c_Draised_:PySem.W.codeIn K cd_Draised "raised"=true)
    (k_Draised:PySem.W.keepIn K (.ref f_Draised)=true)
    (a_MFewest_none:PySem.W.findIn K (.ref c_Fewest) "none"=some (some (.ref f_MFewest_none)))
    (i_MFewest_none:PySem.W.isFn K (.ref f_MFewest_none)=true)
    (l_MFewest_none:K.lookup f_MFewest_none=some ⟨oc_MFewest_none,od_MFewest_none,.func (PySem.W.fnOf "none" "Fewest.none" (defArgs (inClass (top 37) 0)) (defBody (inClass (top 37) 0)) (defScope (inClass (top 37) 0)) .none kV_MFewest_none dc_MFewest_none pm_MFewest_none an_MFewest_none cd_MFewest_none ct_MFewest_none),sl_MFewest_none⟩)
    (c_MFewest_none_:PySem.W.codeIn K cd_MFewest_none "Fewest.none"=true)
    (k_MFewest_none:PySem.W.keepIn K (.ref f_MFewest_none)=true)
    (a_MWidest_none:PySem.W.findIn K (.ref c_Widest) "none"=some (some (.ref f_MWidest_none)))
    (i_MWidest_none:PySem.W.isFn K (.ref f_MWidest_none)=true)
    (l_MWidest_none:K.lookup f_MWidest_none=some ⟨oc_MWidest_none,od_MWidest_none,.func (PySem.W.fnOf "none" "Widest.none" (defArgs (inClass (top 38) 0)) (defBody (inClass (top 38) 0)) (defScope (inClass (top 38) 0)) .none kV_MWidest_none dc_MWidest_none pm_MWidest_none an_MWidest_none cd_MWidest_none ct_MWidest_none),sl_MWidest_none⟩)
    (c_MWidest_none_:PySem.W.codeIn K cd_MWidest_none "Widest.none"=true)
    (k_MWidest_none:PySem.W.keepIn K (.ref f_MWidest_none)=true)
    (a_MCounted_none:PySem.W.findIn K (.ref c_Counted) "none"=some (some (.ref f_MCounted_none)))
    (i_MCounted_none:PySem.W.isFn K (.ref f_MCounted_none)=true)
    (l_MCounted_none:K.lookup f_MCounted_none=some ⟨oc_MCounted_none,od_MCounted_none,.func (PySem.W.fnOf "none" "Counted.none" (defArgs (inClass (top 39) 0)) (defBody (inClass (top 39) 0)) (defScope (inClass (top 39) 0)) .none kV_MCounted_none dc_MCounted_none pm_MCounted_none an_MCounted_none cd_MCounted_none ct_MCounted_none),sl_MCounted_none⟩)
    (c_MCounted_none_:PySem.W.codeIn K cd_MCounted_none "Counted.none"=true)
    (k_MCounted_none:PySem.W.keepIn K (.ref f_MCounted_none)=true)
    (a_MLikeliest_none:PySem.W.findIn K (.ref c_Likeliest) "none"=some (some (.ref f_MLikeliest_none)))
    (i_MLikeliest_none:PySem.W.isFn K (.ref f_MLikeliest_none)=true)
    (l_MLikeliest_none:K.lookup f_MLikeliest_none=some ⟨oc_MLikeliest_none,od_MLikeliest_none,.func (PySem.W.fnOf "none" "Likeliest.none" (defArgs (inClass (top 40) 0)) (defBody (inClass (top 40) 0)) (defScope (inClass (top 40) 0)) .none kV_MLikeliest_none dc_MLikeliest_none pm_MLikeliest_none an_MLikeliest_none cd_MLikeliest_none ct_MLikeliest_none),sl_MLikeliest_none⟩)
    (c_MLikeliest_none_:PySem.W.codeIn K cd_MLikeliest_none "Likeliest.none"=true)
    (k_MLikeliest_none:PySem.W.keepIn K (.ref f_MLikeliest_none)=true)
    (a_MChances_none:PySem.W.findIn K (.ref c_Chances) "none"=some (some (.ref f_MChances_none)))
    (i_MChances_none:PySem.W.isFn K (.ref f_MChances_none)=true)
    (l_MChances_none:K.lookup f_MChances_none=some ⟨oc_MChances_none,od_MChances_none,.func (PySem.W.fnOf "none" "Chances.none" (defArgs (inClass (top 41) 0)) (defBody (inClass (top 41) 0)) (defScope (inClass (top 41) 0)) .none kV_MChances_none dc_MChances_none pm_MChances_none an_MChances_none cd_MChances_none ct_MChances_none),sl_MChances_none⟩)
    (c_MChances_none_:PySem.W.codeIn K cd_MChances_none "Chances.none"=true)
    (k_MChances_none:PySem.W.keepIn K (.ref f_MChances_none)=true)
    (a_MMusts_none:PySem.W.findIn K (.ref c_Musts) "none"=some (some (.ref f_MMusts_none)))
    (i_MMusts_none:PySem.W.isFn K (.ref f_MMusts_none)=true)
    (l_MMusts_none:K.lookup f_MMusts_none=some ⟨oc_MMusts_none,od_MMusts_none,.func (PySem.W.fnOf "none" "Musts.none" (defArgs (inClass (top 42) 0)) (defBody (inClass (top 42) 0)) (defScope (inClass (top 42) 0)) .none kV_MMusts_none dc_MMusts_none pm_MMusts_none an_MMusts_none cd_MMusts_none ct_MMusts_none),sl_MMusts_none⟩)
    (c_MMusts_none_:PySem.W.codeIn K cd_MMusts_none "Musts.none"=true)
    (k_MMusts_none:PySem.W.keepIn K (.ref f_MMusts_none)=true)
    (a_MRests_none:PySem.W.findIn K (.ref c_Rests) "none"=some (some (.ref f_MRests_none)))
    (i_MRests_none:PySem.W.isFn K (.ref f_MRests_none)=true)
    (l_MRests_none:K.lookup f_MRests_none=some ⟨oc_MRests_none,od_MRests_none,.func (PySem.W.fnOf "none" "Rests.none" (defArgs (inClass (top 43) 1)) (defBody (inClass (top 43) 1)) (defScope (inClass (top 43) 1)) .none kV_MRests_none dc_MRests_none pm_MRests_none an_MRests_none cd_MRests_none ct_MRests_none),sl_MRests_none⟩)
    (c_MRests_none_:PySem.W.codeIn K cd_MRests_none "Rests.none"=true)
    (k_MRests_none:PySem.W.keepIn K (.ref f_MRests_none)=true)
    (a_MFewest_rest:PySem.W.findIn K (.ref c_Fewest) "rest"=some (some (.ref f_MFewest_rest)))
    (i_MFewest_rest:PySem.W.isFn K (.ref f_MFewest_rest)=true)
    (l_MFewest_rest:K.lookup f_MFewest_rest=some ⟨oc_MFewest_rest,od_MFewest_rest,.func (PySem.W.fnOf "rest" "Fewest.rest" (defArgs (inClass (top 37) 1)) (defBody (inClass (top 37) 1)) (defScope (inClass (top 37) 1)) .none kV_MFewest_rest dc_MFewest_rest pm_MFewest_rest an_MFewest_rest cd_MFewest_rest ct_MFewest_rest),sl_MFewest_rest⟩)
    (c_MFewest_rest_:PySem.W.codeIn K cd_MFewest_rest "Fewest.rest"=true)
    (k_MFewest_rest:PySem.W.keepIn K (.ref f_MFewest_rest)=true)
    (a_MWidest_rest:PySem.W.findIn K (.ref c_Widest) "rest"=some (some (.ref f_MWidest_rest)))
    (i_MWidest_rest:PySem.W.isFn K (.ref f_MWidest_rest)=true)
    (l_MWidest_rest:K.lookup f_MWidest_rest=some ⟨oc_MWidest_rest,od_MWidest_rest,.func (PySem.W.fnOf "rest" "Widest.rest" (defArgs (inClass (top 38) 1)) (defBody (inClass (top 38) 1)) (defScope (inClass (top 38) 1)) .none kV_MWidest_rest dc_MWidest_rest pm_MWidest_rest an_MWidest_rest cd_MWidest_rest ct_MWidest_rest),sl_MWidest_rest⟩)
    (c_MWidest_rest_:PySem.W.codeIn K cd_MWidest_rest "Widest.rest"=true)
    (k_MWidest_rest:PySem.W.keepIn K (.ref f_MWidest_rest)=true)
    (a_MCounted_rest:PySem.W.findIn K (.ref c_Counted) "rest"=some (some (.ref f_MCounted_rest)))
    (i_MCounted_rest:PySem.W.isFn K (.ref f_MCounted_rest)=true)
    (l_MCounted_rest:K.lookup f_MCounted_rest=some ⟨oc_MCounted_rest,od_MCounted_rest,.func (PySem.W.fnOf "rest" "Counted.rest" (defArgs (inClass (top 39) 1)) (defBody (inClass (top 39) 1)) (defScope (inClass (top 39) 1)) .none kV_MCounted_rest dc_MCounted_rest pm_MCounted_rest an_MCounted_rest cd_MCounted_rest ct_MCounted_rest),sl_MCounted_rest⟩)
    (c_MCounted_rest_:PySem.W.codeIn K cd_MCounted_rest "Counted.rest"=true)
    (k_MCounted_rest:PySem.W.keepIn K (.ref f_MCounted_rest)=true)
    (a_MLikeliest_rest:PySem.W.findIn K (.ref c_Likeliest) "rest"=some (some (.ref f_MLikeliest_rest)))
    (i_MLikeliest_rest:PySem.W.isFn K (.ref f_MLikeliest_rest)=true)
    (l_MLikeliest_rest:K.lookup f_MLikeliest_rest=some ⟨oc_MLikeliest_rest,od_MLikeliest_rest,.func (PySem.W.fnOf "rest" "Likeliest.rest" (defArgs (inClass (top 40) 1)) (defBody (inClass (top 40) 1)) (defScope (inClass (top 40) 1)) .none kV_MLikeliest_rest dc_MLikeliest_rest pm_MLikeliest_rest an_MLikeliest_rest cd_MLikeliest_rest ct_MLikeliest_rest),sl_MLikeliest_rest⟩)
    (c_MLikeliest_rest_:PySem.W.codeIn K cd_MLikeliest_rest "Likeliest.rest"=true)
    (k_MLikeliest_rest:PySem.W.keepIn K (.ref f_MLikeliest_rest)=true)
    (a_MChances_rest:PySem.W.findIn K (.ref c_Chances) "rest"=some (some (.ref f_MChances_rest)))
    (i_MChances_rest:PySem.W.isFn K (.ref f_MChances_rest)=true)
    (l_MChances_rest:K.lookup f_MChances_rest=some ⟨oc_MChances_rest,od_MChances_rest,.func (PySem.W.fnOf "rest" "Chances.rest" (defArgs (inClass (top 41) 1)) (defBody (inClass (top 41) 1)) (defScope (inClass (top 41) 1)) .none kV_MChances_rest dc_MChances_rest pm_MChances_rest an_MChances_rest cd_MChances_rest ct_MChances_rest),sl_MChances_rest⟩)
    (c_MChances_rest_:PySem.W.codeIn K cd_MChances_rest "Chances.rest"=true)
    (k_MChances_rest:PySem.W.keepIn K (.ref f_MChances_rest)=true)
    (a_MMusts_rest:PySem.W.findIn K (.ref c_Musts) "rest"=some (some (.ref f_MMusts_rest)))
    (i_MMusts_rest:PySem.W.isFn K (.ref f_MMusts_rest)=true)
    (l_MMusts_rest:K.lookup f_MMusts_rest=some ⟨oc_MMusts_rest,od_MMusts_rest,.func (PySem.W.fnOf "rest" "Musts.rest" (defArgs (inClass (top 42) 1)) (defBody (inClass (top 42) 1)) (defScope (inClass (top 42) 1)) .none kV_MMusts_rest dc_MMusts_rest pm_MMusts_rest an_MMusts_rest cd_MMusts_rest ct_MMusts_rest),sl_MMusts_rest⟩)
    (c_MMusts_rest_:PySem.W.codeIn K cd_MMusts_rest "Musts.rest"=true)
    (k_MMusts_rest:PySem.W.keepIn K (.ref f_MMusts_rest)=true)
    (a_MRests_rest:PySem.W.findIn K (.ref c_Rests) "rest"=some (some (.ref f_MRests_rest)))
    (i_MRests_rest:PySem.W.isFn K (.ref f_MRests_rest)=true)
    (l_MRests_rest:K.lookup f_MRests_rest=some ⟨oc_MRests_rest,od_MRests_rest,.func (PySem.W.fnOf "rest" "Rests.rest" (defArgs (inClass (top 43) 2)) (defBody (inClass (top 43) 2)) (defScope (inClass (top 43) 2)) .none kV_MRests_rest dc_MRests_rest pm_MRests_rest an_MRests_rest cd_MRests_rest ct_MRests_rest),sl_MRests_rest⟩)
    (c_MRests_rest_:PySem.W.codeIn K cd_MRests_rest "Rests.rest"=true)
    (k_MRests_rest:PySem.W.keepIn K (.ref f_MRests_rest)=true)
    (a_MFewest_together:PySem.W.findIn K (.ref c_Fewest) "together"=some (some (.ref f_MFewest_together)))
    (i_MFewest_together:PySem.W.isFn K (.ref f_MFewest_together)=true)
    (l_MFewest_together:K.lookup f_MFewest_together=some ⟨oc_MFewest_together,od_MFewest_together,.func (PySem.W.fnOf "together" "Fewest.together" (defArgs (inClass (top 37) 3)) (defBody (inClass (top 37) 3)) (defScope (inClass (top 37) 3)) .none kV_MFewest_together dc_MFewest_together pm_MFewest_together an_MFewest_together cd_MFewest_together ct_MFewest_together),sl_MFewest_together⟩)
    (c_MFewest_together_:PySem.W.codeIn K cd_MFewest_together "Fewest.together"=true)
    (k_MFewest_together:PySem.W.keepIn K (.ref f_MFewest_together)=true)
    (a_MWidest_together:PySem.W.findIn K (.ref c_Widest) "together"=some (some (.ref f_MWidest_together)))
    (i_MWidest_together:PySem.W.isFn K (.ref f_MWidest_together)=true)
    (l_MWidest_together:K.lookup f_MWidest_together=some ⟨oc_MWidest_together,od_MWidest_together,.func (PySem.W.fnOf "together" "Widest.together" (defArgs (inClass (top 38) 3)) (defBody (inClass (top 38) 3)) (defScope (inClass (top 38) 3)) .none kV_MWidest_together dc_MWidest_together pm_MWidest_together an_MWidest_together cd_MWidest_together ct_MWidest_together),sl_MWidest_together⟩)
    (c_MWidest_together_:PySem.W.codeIn K cd_MWidest_together "Widest.together"=true)
    (k_MWidest_together:PySem.W.keepIn K (.ref f_MWidest_together)=true)
    (a_MCounted_together:PySem.W.findIn K (.ref c_Counted) "together"=some (some (.ref f_MCounted_together)))
    (i_MCounted_together:PySem.W.isFn K (.ref f_MCounted_together)=true)
    (l_MCounted_together:K.lookup f_MCounted_together=some ⟨oc_MCounted_together,od_MCounted_together,.func (PySem.W.fnOf "together" "Counted.together" (defArgs (inClass (top 39) 3)) (defBody (inClass (top 39) 3)) (defScope (inClass (top 39) 3)) .none kV_MCounted_together dc_MCounted_together pm_MCounted_together an_MCounted_together cd_MCounted_together ct_MCounted_together),sl_MCounted_together⟩)
    (c_MCounted_together_:PySem.W.codeIn K cd_MCounted_together "Counted.together"=true)
    (k_MCounted_together:PySem.W.keepIn K (.ref f_MCounted_together)=true)
    (a_MLikeliest_together:PySem.W.findIn K (.ref c_Likeliest) "together"=some (some (.ref f_MLikeliest_together)))
    (i_MLikeliest_together:PySem.W.isFn K (.ref f_MLikeliest_together)=true)
    (l_MLikeliest_together:K.lookup f_MLikeliest_together=some ⟨oc_MLikeliest_together,od_MLikeliest_together,.func (PySem.W.fnOf "together" "Likeliest.together" (defArgs (inClass (top 40) 3)) (defBody (inClass (top 40) 3)) (defScope (inClass (top 40) 3)) .none kV_MLikeliest_together dc_MLikeliest_together pm_MLikeliest_together an_MLikeliest_together cd_MLikeliest_together ct_MLikeliest_together),sl_MLikeliest_together⟩)
    (c_MLikeliest_together_:PySem.W.codeIn K cd_MLikeliest_together "Likeliest.together"=true)
    (k_MLikeliest_together:PySem.W.keepIn K (.ref f_MLikeliest_together)=true)
    (a_MChances_together:PySem.W.findIn K (.ref c_Chances) "together"=some (some (.ref f_MChances_together)))
    (i_MChances_together:PySem.W.isFn K (.ref f_MChances_together)=true)
    (l_MChances_together:K.lookup f_MChances_together=some ⟨oc_MChances_together,od_MChances_together,.func (PySem.W.fnOf "together" "Chances.together" (defArgs (inClass (top 41) 3)) (defBody (inClass (top 41) 3)) (defScope (inClass (top 41) 3)) .none kV_MChances_together dc_MChances_together pm_MChances_together an_MChances_together cd_MChances_together ct_MChances_together),sl_MChances_together⟩)
    (c_MChances_together_:PySem.W.codeIn K cd_MChances_together "Chances.together"=true)
    (k_MChances_together:PySem.W.keepIn K (.ref f_MChances_together)=true)
    (a_MMusts_together:PySem.W.findIn K (.ref c_Musts) "together"=some (some (.ref f_MMusts_together)))
    (i_MMusts_together:PySem.W.isFn K (.ref f_MMusts_together)=true)
    (l_MMusts_together:K.lookup f_MMusts_together=some ⟨oc_MMusts_together,od_MMusts_together,.func (PySem.W.fnOf "together" "Musts.together" (defArgs (inClass (top 42) 3)) (defBody (inClass (top 42) 3)) (defScope (inClass (top 42) 3)) .none kV_MMusts_together dc_MMusts_together pm_MMusts_together an_MMusts_together cd_MMusts_together ct_MMusts_together),sl_MMusts_together⟩)
    (c_MMusts_together_:PySem.W.codeIn K cd_MMusts_together "Musts.together"=true)
    (k_MMusts_together:PySem.W.keepIn K (.ref f_MMusts_together)=true)
    (a_MRests_together:PySem.W.findIn K (.ref c_Rests) "together"=some (some (.ref f_MRests_together)))
    (i_MRests_together:PySem.W.isFn K (.ref f_MRests_together)=true)
    (l_MRests_together:K.lookup f_MRests_together=some ⟨oc_MRests_together,od_MRests_together,.func (PySem.W.fnOf "together" "Rests.together" (defArgs (inClass (top 43) 4)) (defBody (inClass (top 43) 4)) (defScope (inClass (top 43) 4)) .none kV_MRests_together dc_MRests_together pm_MRests_together an_MRests_together cd_MRests_together ct_MRests_together),sl_MRests_together⟩)
    (c_MRests_together_:PySem.W.codeIn K cd_MRests_together "Rests.together"=true)
    (k_MRests_together:PySem.W.keepIn K (.ref f_MRests_together)=true)
    (a_MFewest_behind:PySem.W.findIn K (.ref c_Fewest) "behind"=some (some (.ref f_MFewest_behind)))
    (i_MFewest_behind:PySem.W.isFn K (.ref f_MFewest_behind)=true)
    (l_MFewest_behind:K.lookup f_MFewest_behind=some ⟨oc_MFewest_behind,od_MFewest_behind,.func (PySem.W.fnOf "behind" "Fewest.behind" (defArgs (inClass (top 37) 4)) (defBody (inClass (top 37) 4)) (defScope (inClass (top 37) 4)) .none kV_MFewest_behind dc_MFewest_behind pm_MFewest_behind an_MFewest_behind cd_MFewest_behind ct_MFewest_behind),sl_MFewest_behind⟩)
    (c_MFewest_behind_:PySem.W.codeIn K cd_MFewest_behind "Fewest.behind"=true)
    (k_MFewest_behind:PySem.W.keepIn K (.ref f_MFewest_behind)=true)
    (a_MWidest_behind:PySem.W.findIn K (.ref c_Widest) "behind"=some (some (.ref f_MWidest_behind)))
    (i_MWidest_behind:PySem.W.isFn K (.ref f_MWidest_behind)=true)
    (l_MWidest_behind:K.lookup f_MWidest_behind=some ⟨oc_MWidest_behind,od_MWidest_behind,.func (PySem.W.fnOf "behind" "Widest.behind" (defArgs (inClass (top 38) 4)) (defBody (inClass (top 38) 4)) (defScope (inClass (top 38) 4)) .none kV_MWidest_behind dc_MWidest_behind pm_MWidest_behind an_MWidest_behind cd_MWidest_behind ct_MWidest_behind),sl_MWidest_behind⟩)
    (c_MWidest_behind_:PySem.W.codeIn K cd_MWidest_behind "Widest.behind"=true)
    (k_MWidest_behind:PySem.W.keepIn K (.ref f_MWidest_behind)=true)
    (a_MCounted_behind:PySem.W.findIn K (.ref c_Counted) "behind"=some (some (.ref f_MCounted_behind)))
    (i_MCounted_behind:PySem.W.isFn K (.ref f_MCounted_behind)=true)
    (l_MCounted_behind:K.lookup f_MCounted_behind=some ⟨oc_MCounted_behind,od_MCounted_behind,.func (PySem.W.fnOf "behind" "Counted.behind" (defArgs (inClass (top 39) 4)) (defBody (inClass (top 39) 4)) (defScope (inClass (top 39) 4)) .none kV_MCounted_behind dc_MCounted_behind pm_MCounted_behind an_MCounted_behind cd_MCounted_behind ct_MCounted_behind),sl_MCounted_behind⟩)
    (c_MCounted_behind_:PySem.W.codeIn K cd_MCounted_behind "Counted.behind"=true)
    (k_MCounted_behind:PySem.W.keepIn K (.ref f_MCounted_behind)=true)
    (a_MLikeliest_behind:PySem.W.findIn K (.ref c_Likeliest) "behind"=some (some (.ref f_MLikeliest_behind)))
    (i_MLikeliest_behind:PySem.W.isFn K (.ref f_MLikeliest_behind)=true)
    (l_MLikeliest_behind:K.lookup f_MLikeliest_behind=some ⟨oc_MLikeliest_behind,od_MLikeliest_behind,.func (PySem.W.fnOf "behind" "Likeliest.behind" (defArgs (inClass (top 40) 4)) (defBody (inClass (top 40) 4)) (defScope (inClass (top 40) 4)) .none kV_MLikeliest_behind dc_MLikeliest_behind pm_MLikeliest_behind an_MLikeliest_behind cd_MLikeliest_behind ct_MLikeliest_behind),sl_MLikeliest_behind⟩)
    (c_MLikeliest_behind_:PySem.W.codeIn K cd_MLikeliest_behind "Likeliest.behind"=true)
    (k_MLikeliest_behind:PySem.W.keepIn K (.ref f_MLikeliest_behind)=true)
    (a_MChances_behind:PySem.W.findIn K (.ref c_Chances) "behind"=some (some (.ref f_MChances_behind)))
    (i_MChances_behind:PySem.W.isFn K (.ref f_MChances_behind)=true)
    (l_MChances_behind:K.lookup f_MChances_behind=some ⟨oc_MChances_behind,od_MChances_behind,.func (PySem.W.fnOf "behind" "Chances.behind" (defArgs (inClass (top 41) 4)) (defBody (inClass (top 41) 4)) (defScope (inClass (top 41) 4)) .none kV_MChances_behind dc_MChances_behind pm_MChances_behind an_MChances_behind cd_MChances_behind ct_MChances_behind),sl_MChances_behind⟩)
    (c_MChances_behind_:PySem.W.codeIn K cd_MChances_behind "Chances.behind"=true)
    (k_MChances_behind:PySem.W.keepIn K (.ref f_MChances_behind)=true)
    (a_MMusts_behind:PySem.W.findIn K (.ref c_Musts) "behind"=some (some (.ref f_MMusts_behind)))
    (i_MMusts_behind:PySem.W.isFn K (.ref f_MMusts_behind)=true)
    (l_MMusts_behind:K.lookup f_MMusts_behind=some ⟨oc_MMusts_behind,od_MMusts_behind,.func (PySem.W.fnOf "behind" "Musts.behind" (defArgs (inClass (top 42) 4)) (defBody (inClass (top 42) 4)) (defScope (inClass (top 42) 4)) .none kV_MMusts_behind dc_MMusts_behind pm_MMusts_behind an_MMusts_behind cd_MMusts_behind ct_MMusts_behind),sl_MMusts_behind⟩)
    (c_MMusts_behind_:PySem.W.codeIn K cd_MMusts_behind "Musts.behind"=true)
    (k_MMusts_behind:PySem.W.keepIn K (.ref f_MMusts_behind)=true)
    (a_MRests_behind:PySem.W.findIn K (.ref c_Rests) "behind"=some (some (.ref f_MRests_behind)))
    (i_MRests_behind:PySem.W.isFn K (.ref f_MRests_behind)=true)
    (l_MRests_behind:K.lookup f_MRests_behind=some ⟨oc_MRests_behind,od_MRests_behind,.func (PySem.W.fnOf "behind" "Rests.behind" (defArgs (inClass (top 43) 5)) (defBody (inClass (top 43) 5)) (defScope (inClass (top 43) 5)) .none kV_MRests_behind dc_MRests_behind pm_MRests_behind an_MRests_behind cd_MRests_behind ct_MRests_behind),sl_MRests_behind⟩)
    (c_MRests_behind_:PySem.W.codeIn K cd_MRests_behind "Rests.behind"=true)
    (k_MRests_behind:PySem.W.keepIn K (.ref f_MRests_behind)=true)
    (a_Dis_from:PySem.W.nsIn K mainGlobals "is_from"=some (some (.ref f_Dis_from)))
    (l_Dis_from:K.lookup f_Dis_from=some ⟨oc_Dis_from,od_Dis_from,.func (PySem.W.fnOf "is_from" "is_from" (defArgs (top 34)) (defBody (top 34)) (defScope (top 34)) .none kV_Dis_from dc_Dis_from pm_Dis_from an_Dis_from cd_Dis_from ct_Dis_from),sl_Dis_from⟩)
    (c_Dis_from_:PySem.W.codeIn K cd_Dis_from "is_from"=true)
    (k_Dis_from:PySem.W.keepIn K (.ref f_Dis_from)=true)
    (a_Dis_share:PySem.W.nsIn K mainGlobals "is_share"=some (some (.ref f_Dis_share)))
    (l_Dis_share:K.lookup f_Dis_share=some ⟨oc_Dis_share,od_Dis_share,.func (PySem.W.fnOf "is_share" "is_share" (defArgs (top 25)) (defBody (top 25)) (defScope (top 25)) .none kV_Dis_share dc_Dis_share pm_Dis_share an_Dis_share cd_Dis_share ct_Dis_share),sl_Dis_share⟩)
    (c_Dis_share_:PySem.W.codeIn K cd_Dis_share "is_share"=true)
    (k_Dis_share:PySem.W.keepIn K (.ref f_Dis_share)=true)
    (a_MFewest_is_worth:PySem.W.findIn K (.ref c_Fewest) "is_worth"=some (some (.ref f_MFewest_is_worth)))
    (i_MFewest_is_worth:PySem.W.isFn K (.ref f_MFewest_is_worth)=true)
    (l_MFewest_is_worth:K.lookup f_MFewest_is_worth=some ⟨oc_MFewest_is_worth,od_MFewest_is_worth,.func (PySem.W.fnOf "is_worth" "Fewest.is_worth" (defArgs (inClass (top 37) 2)) (defBody (inClass (top 37) 2)) (defScope (inClass (top 37) 2)) .none kV_MFewest_is_worth dc_MFewest_is_worth pm_MFewest_is_worth an_MFewest_is_worth cd_MFewest_is_worth ct_MFewest_is_worth),sl_MFewest_is_worth⟩)
    (c_MFewest_is_worth_:PySem.W.codeIn K cd_MFewest_is_worth "Fewest.is_worth"=true)
    (k_MFewest_is_worth:PySem.W.keepIn K (.ref f_MFewest_is_worth)=true)
    (a_MWidest_is_worth:PySem.W.findIn K (.ref c_Widest) "is_worth"=some (some (.ref f_MWidest_is_worth)))
    (i_MWidest_is_worth:PySem.W.isFn K (.ref f_MWidest_is_worth)=true)
    (l_MWidest_is_worth:K.lookup f_MWidest_is_worth=some ⟨oc_MWidest_is_worth,od_MWidest_is_worth,.func (PySem.W.fnOf "is_worth" "Widest.is_worth" (defArgs (inClass (top 38) 2)) (defBody (inClass (top 38) 2)) (defScope (inClass (top 38) 2)) .none kV_MWidest_is_worth dc_MWidest_is_worth pm_MWidest_is_worth an_MWidest_is_worth cd_MWidest_is_worth ct_MWidest_is_worth),sl_MWidest_is_worth⟩)
    (c_MWidest_is_worth_:PySem.W.codeIn K cd_MWidest_is_worth "Widest.is_worth"=true)
    (k_MWidest_is_worth:PySem.W.keepIn K (.ref f_MWidest_is_worth)=true)
    (a_MCounted_is_worth:PySem.W.findIn K (.ref c_Counted) "is_worth"=some (some (.ref f_MCounted_is_worth)))
    (i_MCounted_is_worth:PySem.W.isFn K (.ref f_MCounted_is_worth)=true)
    (l_MCounted_is_worth:K.lookup f_MCounted_is_worth=some ⟨oc_MCounted_is_worth,od_MCounted_is_worth,.func (PySem.W.fnOf "is_worth" "Counted.is_worth" (defArgs (inClass (top 39) 2)) (defBody (inClass (top 39) 2)) (defScope (inClass (top 39) 2)) .none kV_MCounted_is_worth dc_MCounted_is_worth pm_MCounted_is_worth an_MCounted_is_worth cd_MCounted_is_worth ct_MCounted_is_worth),sl_MCounted_is_worth⟩)
    (c_MCounted_is_worth_:PySem.W.codeIn K cd_MCounted_is_worth "Counted.is_worth"=true)
    (k_MCounted_is_worth:PySem.W.keepIn K (.ref f_MCounted_is_worth)=true)
    (a_MLikeliest_is_worth:PySem.W.findIn K (.ref c_Likeliest) "is_worth"=some (some (.ref f_MLikeliest_is_worth)))
    (i_MLikeliest_is_worth:PySem.W.isFn K (.ref f_MLikeliest_is_worth)=true)
    (l_MLikeliest_is_worth:K.lookup f_MLikeliest_is_worth=some ⟨oc_MLikeliest_is_worth,od_MLikeliest_is_worth,.func (PySem.W.fnOf "is_worth" "Likeliest.is_worth" (defArgs (inClass (top 40) 2)) (defBody (inClass (top 40) 2)) (defScope (inClass (top 40) 2)) .none kV_MLikeliest_is_worth dc_MLikeliest_is_worth pm_MLikeliest_is_worth an_MLikeliest_is_worth cd_MLikeliest_is_worth ct_MLikeliest_is_worth),sl_MLikeliest_is_worth⟩)
    (c_MLikeliest_is_worth_:PySem.W.codeIn K cd_MLikeliest_is_worth "Likeliest.is_worth"=true)
    (k_MLikeliest_is_worth:PySem.W.keepIn K (.ref f_MLikeliest_is_worth)=true)
    (a_MChances_is_worth:PySem.W.findIn K (.ref c_Chances) "is_worth"=some (some (.ref f_MChances_is_worth)))
    (i_MChances_is_worth:PySem.W.isFn K (.ref f_MChances_is_worth)=true)
    (l_MChances_is_worth:K.lookup f_MChances_is_worth=some ⟨oc_MChances_is_worth,od_MChances_is_worth,.func (PySem.W.fnOf "is_worth" "Chances.is_worth" (defArgs (inClass (top 41) 2)) (defBody (inClass (top 41) 2)) (defScope (inClass (top 41) 2)) .none kV_MChances_is_worth dc_MChances_is_worth pm_MChances_is_worth an_MChances_is_worth cd_MChances_is_worth ct_MChances_is_worth),sl_MChances_is_worth⟩)
    (c_MChances_is_worth_:PySem.W.codeIn K cd_MChances_is_worth "Chances.is_worth"=true)
    (k_MChances_is_worth:PySem.W.keepIn K (.ref f_MChances_is_worth)=true)
    (a_MMusts_is_worth:PySem.W.findIn K (.ref c_Musts) "is_worth"=some (some (.ref f_MMusts_is_worth)))
    (i_MMusts_is_worth:PySem.W.isFn K (.ref f_MMusts_is_worth)=true)
    (l_MMusts_is_worth:K.lookup f_MMusts_is_worth=some ⟨oc_MMusts_is_worth,od_MMusts_is_worth,.func (PySem.W.fnOf "is_worth" "Musts.is_worth" (defArgs (inClass (top 42) 2)) (defBody (inClass (top 42) 2)) (defScope (inClass (top 42) 2)) .none kV_MMusts_is_worth dc_MMusts_is_worth pm_MMusts_is_worth an_MMusts_is_worth cd_MMusts_is_worth ct_MMusts_is_worth),sl_MMusts_is_worth⟩)
    (c_MMusts_is_worth_:PySem.W.codeIn K cd_MMusts_is_worth "Musts.is_worth"=true)
    (k_MMusts_is_worth:PySem.W.keepIn K (.ref f_MMusts_is_worth)=true)
    (a_MRests_is_worth:PySem.W.findIn K (.ref c_Rests) "is_worth"=some (some (.ref f_MRests_is_worth)))
    (i_MRests_is_worth:PySem.W.isFn K (.ref f_MRests_is_worth)=true)
    (l_MRests_is_worth:K.lookup f_MRests_is_worth=some ⟨oc_MRests_is_worth,od_MRests_is_worth,.func (PySem.W.fnOf "is_worth" "Rests.is_worth" (defArgs (inClass (top 43) 3)) (defBody (inClass (top 43) 3)) (defScope (inClass (top 43) 3)) .none kV_MRests_is_worth dc_MRests_is_worth pm_MRests_is_worth an_MRests_is_worth cd_MRests_is_worth ct_MRests_is_worth),sl_MRests_is_worth⟩)
    (c_MRests_is_worth_:PySem.W.codeIn K cd_MRests_is_worth "Rests.is_worth"=true)
    (k_MRests_is_worth:PySem.W.keepIn K (.ref f_MRests_is_worth)=true)
    (a_Dcheck_numbers:PySem.W.nsIn K mainGlobals "check_numbers"=some (some (.ref f_Dcheck_numbers)))
    (l_Dcheck_numbers:K.lookup f_Dcheck_numbers=some ⟨oc_Dcheck_numbers,od_Dcheck_numbers,.func (PySem.W.fnOf "check_numbers" "check_numbers" (defArgs (top 11)) (defBody (top 11)) (defScope (top 11)) .none kV_Dcheck_numbers dc_Dcheck_numbers pm_Dcheck_numbers an_Dcheck_numbers cd_Dcheck_numbers ct_Dcheck_numbers),sl_Dcheck_numbers⟩)
    (c_Dcheck_numbers_:PySem.W.codeIn K cd_Dcheck_numbers "check_numbers"=true)
    (k_Dcheck_numbers:PySem.W.keepIn K (.ref f_Dcheck_numbers)=true)
    (a_Dcheck_ends:PySem.W.nsIn K mainGlobals "check_ends"=some (some (.ref f_Dcheck_ends)))
    (l_Dcheck_ends:K.lookup f_Dcheck_ends=some ⟨oc_Dcheck_ends,od_Dcheck_ends,.func (PySem.W.fnOf "check_ends" "check_ends" (defArgs (top 12)) (defBody (top 12)) (defScope (top 12)) .none kV_Dcheck_ends dc_Dcheck_ends pm_Dcheck_ends an_Dcheck_ends cd_Dcheck_ends ct_Dcheck_ends),sl_Dcheck_ends⟩)
    (c_Dcheck_ends_:PySem.W.codeIn K cd_Dcheck_ends "check_ends"=true)
    (k_Dcheck_ends:PySem.W.keepIn K (.ref f_Dcheck_ends)=true)
    (a_MFewest_may_start_together:PySem.W.findIn K (.ref c_Fewest) "may_start_together"=some (some (.ref f_MFewest_may_start_together)))
    (i_MFewest_may_start_together:PySem.W.isFn K (.ref f_MFewest_may_start_together)=true)
    (l_MFewest_may_start_together:K.lookup f_MFewest_may_start_together=some ⟨oc_MFewest_may_start_together,od_MFewest_may_start_together,.func (PySem.W.fnOf "may_start_together" "Kind.may_start_together" (defArgs (inClass (top 36) 7)) (defBody (inClass (top 36) 7)) (defScope (inClass (top 36) 7)) .none kV_MFewest_may_start_together dc_MFewest_may_start_together pm_MFewest_may_start_together an_MFewest_may_start_together cd_MFewest_may_start_together ct_MFewest_may_start_together),sl_MFewest_may_start_together⟩)
    (c_MFewest_may_start_together_:PySem.W.codeIn K cd_MFewest_may_start_together "Kind.may_start_together"=true)
    (k_MFewest_may_start_together:PySem.W.keepIn K (.ref f_MFewest_may_start_together)=true)
    (a_MWidest_may_start_together:PySem.W.findIn K (.ref c_Widest) "may_start_together"=some (some (.ref f_MWidest_may_start_together)))
    (i_MWidest_may_start_together:PySem.W.isFn K (.ref f_MWidest_may_start_together)=true)
    (l_MWidest_may_start_together:K.lookup f_MWidest_may_start_together=some ⟨oc_MWidest_may_start_together,od_MWidest_may_start_together,.func (PySem.W.fnOf "may_start_together" "Kind.may_start_together" (defArgs (inClass (top 36) 7)) (defBody (inClass (top 36) 7)) (defScope (inClass (top 36) 7)) .none kV_MWidest_may_start_together dc_MWidest_may_start_together pm_MWidest_may_start_together an_MWidest_may_start_together cd_MWidest_may_start_together ct_MWidest_may_start_together),sl_MWidest_may_start_together⟩)
    (c_MWidest_may_start_together_:PySem.W.codeIn K cd_MWidest_may_start_together "Kind.may_start_together"=true)
    (k_MWidest_may_start_together:PySem.W.keepIn K (.ref f_MWidest_may_start_together)=true)
    (a_MCounted_may_start_together:PySem.W.findIn K (.ref c_Counted) "may_start_together"=some (some (.ref f_MCounted_may_start_together)))
    (i_MCounted_may_start_together:PySem.W.isFn K (.ref f_MCounted_may_start_together)=true)
    (l_MCounted_may_start_together:K.lookup f_MCounted_may_start_together=some ⟨oc_MCounted_may_start_together,od_MCounted_may_start_together,.func (PySem.W.fnOf "may_start_together" "Kind.may_start_together" (defArgs (inClass (top 36) 7)) (defBody (inClass (top 36) 7)) (defScope (inClass (top 36) 7)) .none kV_MCounted_may_start_together dc_MCounted_may_start_together pm_MCounted_may_start_together an_MCounted_may_start_together cd_MCounted_may_start_together ct_MCounted_may_start_together),sl_MCounted_may_start_together⟩)
    (c_MCounted_may_start_together_:PySem.W.codeIn K cd_MCounted_may_start_together "Kind.may_start_together"=true)
    (k_MCounted_may_start_together:PySem.W.keepIn K (.ref f_MCounted_may_start_together)=true)
    (a_MLikeliest_may_start_together:PySem.W.findIn K (.ref c_Likeliest) "may_start_together"=some (some (.ref f_MLikeliest_may_start_together)))
    (i_MLikeliest_may_start_together:PySem.W.isFn K (.ref f_MLikeliest_may_start_together)=true)
    (l_MLikeliest_may_start_together:K.lookup f_MLikeliest_may_start_together=some ⟨oc_MLikeliest_may_start_together,od_MLikeliest_may_start_together,.func (PySem.W.fnOf "may_start_together" "Kind.may_start_together" (defArgs (inClass (top 36) 7)) (defBody (inClass (top 36) 7)) (defScope (inClass (top 36) 7)) .none kV_MLikeliest_may_start_together dc_MLikeliest_may_start_together pm_MLikeliest_may_start_together an_MLikeliest_may_start_together cd_MLikeliest_may_start_together ct_MLikeliest_may_start_together),sl_MLikeliest_may_start_together⟩)
    (c_MLikeliest_may_start_together_:PySem.W.codeIn K cd_MLikeliest_may_start_together "Kind.may_start_together"=true)
    (k_MLikeliest_may_start_together:PySem.W.keepIn K (.ref f_MLikeliest_may_start_together)=true)
    (a_MChances_may_start_together:PySem.W.findIn K (.ref c_Chances) "may_start_together"=some (some (.ref f_MChances_may_start_together)))
    (i_MChances_may_start_together:PySem.W.isFn K (.ref f_MChances_may_start_together)=true)
    (l_MChances_may_start_together:K.lookup f_MChances_may_start_together=some ⟨oc_MChances_may_start_together,od_MChances_may_start_together,.func (PySem.W.fnOf "may_start_together" "Chances.may_start_together" (defArgs (inClass (top 41) 6)) (defBody (inClass (top 41) 6)) (defScope (inClass (top 41) 6)) .none kV_MChances_may_start_together dc_MChances_may_start_together pm_MChances_may_start_together an_MChances_may_start_together cd_MChances_may_start_together ct_MChances_may_start_together),sl_MChances_may_start_together⟩)
    (c_MChances_may_start_together_:PySem.W.codeIn K cd_MChances_may_start_together "Chances.may_start_together"=true)
    (k_MChances_may_start_together:PySem.W.keepIn K (.ref f_MChances_may_start_together)=true)
    (a_MMusts_may_start_together:PySem.W.findIn K (.ref c_Musts) "may_start_together"=some (some (.ref f_MMusts_may_start_together)))
    (i_MMusts_may_start_together:PySem.W.isFn K (.ref f_MMusts_may_start_together)=true)
    (l_MMusts_may_start_together:K.lookup f_MMusts_may_start_together=some ⟨oc_MMusts_may_start_together,od_MMusts_may_start_together,.func (PySem.W.fnOf "may_start_together" "Kind.may_start_together" (defArgs (inClass (top 36) 7)) (defBody (inClass (top 36) 7)) (defScope (inClass (top 36) 7)) .none kV_MMusts_may_start_together dc_MMusts_may_start_together pm_MMusts_may_start_together an_MMusts_may_start_together cd_MMusts_may_start_together ct_MMusts_may_start_together),sl_MMusts_may_start_together⟩)
    (c_MMusts_may_start_together_:PySem.W.codeIn K cd_MMusts_may_start_together "Kind.may_start_together"=true)
    (k_MMusts_may_start_together:PySem.W.keepIn K (.ref f_MMusts_may_start_together)=true)
    (a_MRests_may_start_together:PySem.W.findIn K (.ref c_Rests) "may_start_together"=some (some (.ref f_MRests_may_start_together)))
    (i_MRests_may_start_together:PySem.W.isFn K (.ref f_MRests_may_start_together)=true)
    (l_MRests_may_start_together:K.lookup f_MRests_may_start_together=some ⟨oc_MRests_may_start_together,od_MRests_may_start_together,.func (PySem.W.fnOf "may_start_together" "Kind.may_start_together" (defArgs (inClass (top 36) 7)) (defBody (inClass (top 36) 7)) (defScope (inClass (top 36) 7)) .none kV_MRests_may_start_together dc_MRests_may_start_together pm_MRests_may_start_together an_MRests_may_start_together cd_MRests_may_start_together ct_MRests_may_start_together),sl_MRests_may_start_together⟩)
    (c_MRests_may_start_together_:PySem.W.codeIn K cd_MRests_may_start_together "Kind.may_start_together"=true)
    (k_MRests_may_start_together:PySem.W.keepIn K (.ref f_MRests_may_start_together)=true)
    (a_Dcheck_starts:PySem.W.nsIn K mainGlobals "check_starts"=some (some (.ref f_Dcheck_starts)))
    (l_Dcheck_starts:K.lookup f_Dcheck_starts=some ⟨oc_Dcheck_starts,od_Dcheck_starts,.func (PySem.W.fnOf "check_starts" "check_starts" (defArgs (top 13)) (defBody (top 13)) (defScope (top 13)) .none kV_Dcheck_starts dc_Dcheck_starts pm_Dcheck_starts an_Dcheck_starts cd_Dcheck_starts ct_Dcheck_starts),sl_Dcheck_starts⟩)
    (c_Dcheck_starts_:PySem.W.codeIn K cd_Dcheck_starts "check_starts"=true)
    (k_Dcheck_starts:PySem.W.keepIn K (.ref f_Dcheck_starts)=true)
    (a_Dcheck_worths:PySem.W.nsIn K mainGlobals "check_worths"=some (some (.ref f_Dcheck_worths)))
    (l_Dcheck_worths:K.lookup f_Dcheck_worths=some ⟨oc_Dcheck_worths,od_Dcheck_worths,.func (PySem.W.fnOf "check_worths" "check_worths" (defArgs (top 14)) (defBody (top 14)) (defScope (top 14)) .none kV_Dcheck_worths dc_Dcheck_worths pm_Dcheck_worths an_Dcheck_worths cd_Dcheck_worths ct_Dcheck_worths),sl_Dcheck_worths⟩)
    (c_Dcheck_worths_:PySem.W.codeIn K cd_Dcheck_worths "check_worths"=true)
    (k_Dcheck_worths:PySem.W.keepIn K (.ref f_Dcheck_worths)=true)
    (a_MNet_init:PySem.W.findIn K (.ref c_Net) "__init__"=some (some (.ref f_MNet_init)))
    (i_MNet_init:PySem.W.isFn K (.ref f_MNet_init)=true)
    (l_MNet_init:K.lookup f_MNet_init=some ⟨oc_MNet_init,od_MNet_init,.func (PySem.W.fnOf "__init__" "Net.__init__" (defArgs (inClass (top 16) 0)) (defBody (inClass (top 16) 0)) (defScope (inClass (top 16) 0)) .none kV_MNet_init dc_MNet_init pm_MNet_init an_MNet_init cd_MNet_init ct_MNet_init),sl_MNet_init⟩)
    (c_MNet_init_:PySem.W.codeIn K cd_MNet_init "Net.__init__"=true)
    (k_MNet_init:PySem.W.keepIn K (.ref f_MNet_init)=true)
    (a_MNet_kind:PySem.W.findIn K (.ref c_Net) "kind"=some (some (.ref f_MNet_kind)))
    (i_MNet_kind:PySem.W.isFn K (.ref f_MNet_kind)=true)
    (l_MNet_kind:K.lookup f_MNet_kind=some ⟨oc_MNet_kind,od_MNet_kind,.func (PySem.W.fnOf "kind" "Net.kind" (defArgs (inClass (top 16) 1)) (defBody (inClass (top 16) 1)) (defScope (inClass (top 16) 1)) .none kV_MNet_kind dc_MNet_kind pm_MNet_kind an_MNet_kind cd_MNet_kind ct_MNet_kind),sl_MNet_kind⟩)
    (c_MNet_kind_:PySem.W.codeIn K cd_MNet_kind "Net.kind"=true)
    (k_MNet_kind:PySem.W.keepIn K (.ref f_MNet_kind)=true)
    (a_MNet_places:PySem.W.findIn K (.ref c_Net) "places"=some (some (.ref f_MNet_places)))
    (i_MNet_places:PySem.W.isFn K (.ref f_MNet_places)=true)
    (l_MNet_places:K.lookup f_MNet_places=some ⟨oc_MNet_places,od_MNet_places,.func (PySem.W.fnOf "places" "Net.places" (defArgs (inClass (top 16) 2)) (defBody (inClass (top 16) 2)) (defScope (inClass (top 16) 2)) .none kV_MNet_places dc_MNet_places pm_MNet_places an_MNet_places cd_MNet_places ct_MNet_places),sl_MNet_places⟩)
    (c_MNet_places_:PySem.W.codeIn K cd_MNet_places "Net.places"=true)
    (k_MNet_places:PySem.W.keepIn K (.ref f_MNet_places)=true)
    (a_MNet_roads:PySem.W.findIn K (.ref c_Net) "roads"=some (some (.ref f_MNet_roads)))
    (i_MNet_roads:PySem.W.isFn K (.ref f_MNet_roads)=true)
    (l_MNet_roads:K.lookup f_MNet_roads=some ⟨oc_MNet_roads,od_MNet_roads,.func (PySem.W.fnOf "roads" "Net.roads" (defArgs (inClass (top 16) 3)) (defBody (inClass (top 16) 3)) (defScope (inClass (top 16) 3)) .none kV_MNet_roads dc_MNet_roads pm_MNet_roads an_MNet_roads cd_MNet_roads ct_MNet_roads),sl_MNet_roads⟩)
    (c_MNet_roads_:PySem.W.codeIn K cd_MNet_roads "Net.roads"=true)
    (k_MNet_roads:PySem.W.keepIn K (.ref f_MNet_roads)=true)
    (a_Dlaw_tog:PySem.W.nsIn K mainGlobals "_law_tog"=some (some (.ref f_Dlaw_tog)))
    (l_Dlaw_tog:K.lookup f_Dlaw_tog=some ⟨oc_Dlaw_tog,od_Dlaw_tog,.func (PySem.W.fnOf "_law_tog" "_law_tog" (defArgs (top 51)) (defBody (top 51)) (defScope (top 51)) .none kV_Dlaw_tog dc_Dlaw_tog pm_Dlaw_tog an_Dlaw_tog cd_Dlaw_tog ct_Dlaw_tog),sl_Dlaw_tog⟩)
    (c_Dlaw_tog_:PySem.W.codeIn K cd_Dlaw_tog "_law_tog"=true)
    (k_Dlaw_tog:PySem.W.keepIn K (.ref f_Dlaw_tog)=true)
    (a_Dlaw_beh:PySem.W.nsIn K mainGlobals "_law_beh"=some (some (.ref f_Dlaw_beh)))
    (l_Dlaw_beh:K.lookup f_Dlaw_beh=some ⟨oc_Dlaw_beh,od_Dlaw_beh,.func (PySem.W.fnOf "_law_beh" "_law_beh" (defArgs (top 52)) (defBody (top 52)) (defScope (top 52)) .none kV_Dlaw_beh dc_Dlaw_beh pm_Dlaw_beh an_Dlaw_beh cd_Dlaw_beh ct_Dlaw_beh),sl_Dlaw_beh⟩)
    (c_Dlaw_beh_:PySem.W.codeIn K cd_Dlaw_beh "_law_beh"=true)
    (k_Dlaw_beh:PySem.W.keepIn K (.ref f_Dlaw_beh)=true)
    (a_Dlaw_whole:PySem.W.nsIn K mainGlobals "_law_whole"=some (some (.ref f_Dlaw_whole)))
    (l_Dlaw_whole:K.lookup f_Dlaw_whole=some ⟨oc_Dlaw_whole,od_Dlaw_whole,.func (PySem.W.fnOf "_law_whole" "_law_whole" (defArgs (top 46)) (defBody (top 46)) (defScope (top 46)) .none kV_Dlaw_whole dc_Dlaw_whole pm_Dlaw_whole an_Dlaw_whole cd_Dlaw_whole ct_Dlaw_whole),sl_Dlaw_whole⟩)
    (c_Dlaw_whole_:PySem.W.codeIn K cd_Dlaw_whole "_law_whole"=true)
    (k_Dlaw_whole:PySem.W.keepIn K (.ref f_Dlaw_whole)=true)
    (a_Dlaw_thinned:PySem.W.nsIn K mainGlobals "_law_thinned"=some (some (.ref f_Dlaw_thinned)))
    (l_Dlaw_thinned:K.lookup f_Dlaw_thinned=some ⟨oc_Dlaw_thinned,od_Dlaw_thinned,.func (PySem.W.fnOf "_law_thinned" "_law_thinned" (defArgs (top 54)) (defBody (top 54)) (defScope (top 54)) .none kV_Dlaw_thinned dc_Dlaw_thinned pm_Dlaw_thinned an_Dlaw_thinned cd_Dlaw_thinned ct_Dlaw_thinned),sl_Dlaw_thinned⟩)
    (c_Dlaw_thinned_:PySem.W.codeIn K cd_Dlaw_thinned "_law_thinned"=true)
    (k_Dlaw_thinned:PySem.W.keepIn K (.ref f_Dlaw_thinned)=true)
    (a_Dlaw_net:PySem.W.nsIn K mainGlobals "_law_net"=some (some (.ref f_Dlaw_net)))
    (l_Dlaw_net:K.lookup f_Dlaw_net=some ⟨oc_Dlaw_net,od_Dlaw_net,.func (PySem.W.fnOf "_law_net" "_law_net" (defArgs (top 55)) (defBody (top 55)) (defScope (top 55)) .none kV_Dlaw_net dc_Dlaw_net pm_Dlaw_net an_Dlaw_net cd_Dlaw_net ct_Dlaw_net),sl_Dlaw_net⟩)
    (c_Dlaw_net_:PySem.W.codeIn K cd_Dlaw_net "_law_net"=true)
    (k_Dlaw_net:PySem.W.keepIn K (.ref f_Dlaw_net)=true)
    (a_Dcheck_place:PySem.W.nsIn K mainGlobals "check_place"=some (some (.ref f_Dcheck_place)))
    (l_Dcheck_place:K.lookup f_Dcheck_place=some ⟨oc_Dcheck_place,od_Dcheck_place,.func (PySem.W.fnOf "check_place" "check_place" (defArgs (top 15)) (defBody (top 15)) (defScope (top 15)) .none kV_Dcheck_place dc_Dcheck_place pm_Dcheck_place an_Dcheck_place cd_Dcheck_place ct_Dcheck_place),sl_Dcheck_place⟩)
    (c_Dcheck_place_:PySem.W.codeIn K cd_Dcheck_place "check_place"=true)
    (k_Dcheck_place:PySem.W.keepIn K (.ref f_Dcheck_place)=true)
    (a_Dlaw_steps:PySem.W.nsIn K mainGlobals "_law_steps"=some (some (.ref f_Dlaw_steps)))
    (l_Dlaw_steps:K.lookup f_Dlaw_steps=some ⟨oc_Dlaw_steps,od_Dlaw_steps,.func (PySem.W.fnOf "_law_steps" "_law_steps" (defArgs (top 56)) (defBody (top 56)) (defScope (top 56)) .none kV_Dlaw_steps dc_Dlaw_steps pm_Dlaw_steps an_Dlaw_steps cd_Dlaw_steps ct_Dlaw_steps),sl_Dlaw_steps⟩)
    (c_Dlaw_steps_:PySem.W.codeIn K cd_Dlaw_steps "_law_steps"=true)
    (k_Dlaw_steps:PySem.W.keepIn K (.ref f_Dlaw_steps)=true)
    (a_Dbetters:PySem.W.nsIn K mainGlobals "betters"=some (some (.ref f_Dbetters)))
    (l_Dbetters:K.lookup f_Dbetters=some ⟨oc_Dbetters,od_Dbetters,.func (PySem.W.fnOf "betters" "betters" (defArgs (top 21)) (defBody (top 21)) (defScope (top 21)) .none kV_Dbetters dc_Dbetters pm_Dbetters an_Dbetters cd_Dbetters ct_Dbetters),sl_Dbetters⟩)
    (c_Dbetters_:PySem.W.codeIn K cd_Dbetters "betters"=true)
    (k_Dbetters:PySem.W.keepIn K (.ref f_Dbetters)=true)
    (a_Dbest_place:PySem.W.nsIn K mainGlobals "best_place"=some (some (.ref f_Dbest_place)))
    (l_Dbest_place:K.lookup f_Dbest_place=some ⟨oc_Dbest_place,od_Dbest_place,.func (PySem.W.fnOf "best_place" "best_place" (defArgs (top 20)) (defBody (top 20)) (defScope (top 20)) .none kV_Dbest_place dc_Dbest_place pm_Dbest_place an_Dbest_place cd_Dbest_place ct_Dbest_place),sl_Dbest_place⟩)
    (c_Dbest_place_:PySem.W.codeIn K cd_Dbest_place "best_place"=true)
    (k_Dbest_place:PySem.W.keepIn K (.ref f_Dbest_place)=true)
    (a_Doffer:PySem.W.nsIn K mainGlobals "offer"=some (some (.ref f_Doffer)))
    (l_Doffer:K.lookup f_Doffer=some ⟨oc_Doffer,od_Doffer,.func (PySem.W.fnOf "offer" "offer" (defArgs (top 22)) (defBody (top 22)) (defScope (top 22)) .none kV_Doffer dc_Doffer pm_Doffer an_Doffer cd_Doffer ct_Doffer),sl_Doffer⟩)
    (c_Doffer_:PySem.W.codeIn K cd_Doffer "offer"=true)
    (k_Doffer:PySem.W.keepIn K (.ref f_Doffer)=true)
    (a_Dbest_ways:PySem.W.nsIn K mainGlobals "best_ways"=some (some (.ref f_Dbest_ways)))
    (l_Dbest_ways:K.lookup f_Dbest_ways=some ⟨oc_Dbest_ways,od_Dbest_ways,.func (PySem.W.fnOf "best_ways" "best_ways" (defArgs (top 19)) (defBody (top 19)) (defScope (top 19)) .none kV_Dbest_ways dc_Dbest_ways pm_Dbest_ways an_Dbest_ways cd_Dbest_ways ct_Dbest_ways),sl_Dbest_ways⟩)
    (c_Dbest_ways_:PySem.W.codeIn K cd_Dbest_ways "best_ways"=true)
    (k_Dbest_ways:PySem.W.keepIn K (.ref f_Dbest_ways)=true)
    (a_MFewest_picks:PySem.W.findIn K (.ref c_Fewest) "picks"=some (some (.ref f_MFewest_picks)))
    (i_MFewest_picks:PySem.W.isFn K (.ref f_MFewest_picks)=true)
    (l_MFewest_picks:K.lookup f_MFewest_picks=some ⟨oc_MFewest_picks,od_MFewest_picks,.func (PySem.W.fnOf "picks" "Fewest.picks" (defArgs (inClass (top 37) 5)) (defBody (inClass (top 37) 5)) (defScope (inClass (top 37) 5)) .none kV_MFewest_picks dc_MFewest_picks pm_MFewest_picks an_MFewest_picks cd_MFewest_picks ct_MFewest_picks),sl_MFewest_picks⟩)
    (c_MFewest_picks_:PySem.W.codeIn K cd_MFewest_picks "Fewest.picks"=true)
    (k_MFewest_picks:PySem.W.keepIn K (.ref f_MFewest_picks)=true)
    (a_MWidest_picks:PySem.W.findIn K (.ref c_Widest) "picks"=some (some (.ref f_MWidest_picks)))
    (i_MWidest_picks:PySem.W.isFn K (.ref f_MWidest_picks)=true)
    (l_MWidest_picks:K.lookup f_MWidest_picks=some ⟨oc_MWidest_picks,od_MWidest_picks,.func (PySem.W.fnOf "picks" "Widest.picks" (defArgs (inClass (top 38) 5)) (defBody (inClass (top 38) 5)) (defScope (inClass (top 38) 5)) .none kV_MWidest_picks dc_MWidest_picks pm_MWidest_picks an_MWidest_picks cd_MWidest_picks ct_MWidest_picks),sl_MWidest_picks⟩)
    (c_MWidest_picks_:PySem.W.codeIn K cd_MWidest_picks "Widest.picks"=true)
    (k_MWidest_picks:PySem.W.keepIn K (.ref f_MWidest_picks)=true)
    (a_MCounted_picks:PySem.W.findIn K (.ref c_Counted) "picks"=some (some (.ref f_MCounted_picks)))
    (i_MCounted_picks:PySem.W.isFn K (.ref f_MCounted_picks)=true)
    (l_MCounted_picks:K.lookup f_MCounted_picks=some ⟨oc_MCounted_picks,od_MCounted_picks,.func (PySem.W.fnOf "picks" "Kind.picks" (defArgs (inClass (top 36) 6)) (defBody (inClass (top 36) 6)) (defScope (inClass (top 36) 6)) .none kV_MCounted_picks dc_MCounted_picks pm_MCounted_picks an_MCounted_picks cd_MCounted_picks ct_MCounted_picks),sl_MCounted_picks⟩)
    (c_MCounted_picks_:PySem.W.codeIn K cd_MCounted_picks "Kind.picks"=true)
    (k_MCounted_picks:PySem.W.keepIn K (.ref f_MCounted_picks)=true)
    (a_MLikeliest_picks:PySem.W.findIn K (.ref c_Likeliest) "picks"=some (some (.ref f_MLikeliest_picks)))
    (i_MLikeliest_picks:PySem.W.isFn K (.ref f_MLikeliest_picks)=true)
    (l_MLikeliest_picks:K.lookup f_MLikeliest_picks=some ⟨oc_MLikeliest_picks,od_MLikeliest_picks,.func (PySem.W.fnOf "picks" "Likeliest.picks" (defArgs (inClass (top 40) 5)) (defBody (inClass (top 40) 5)) (defScope (inClass (top 40) 5)) .none kV_MLikeliest_picks dc_MLikeliest_picks pm_MLikeliest_picks an_MLikeliest_picks cd_MLikeliest_picks ct_MLikeliest_picks),sl_MLikeliest_picks⟩)
    (c_MLikeliest_picks_:PySem.W.codeIn K cd_MLikeliest_picks "Likeliest.picks"=true)
    (k_MLikeliest_picks:PySem.W.keepIn K (.ref f_MLikeliest_picks)=true)
    (a_MChances_picks:PySem.W.findIn K (.ref c_Chances) "picks"=some (some (.ref f_MChances_picks)))
    (i_MChances_picks:PySem.W.isFn K (.ref f_MChances_picks)=true)
    (l_MChances_picks:K.lookup f_MChances_picks=some ⟨oc_MChances_picks,od_MChances_picks,.func (PySem.W.fnOf "picks" "Kind.picks" (defArgs (inClass (top 36) 6)) (defBody (inClass (top 36) 6)) (defScope (inClass (top 36) 6)) .none kV_MChances_picks dc_MChances_picks pm_MChances_picks an_MChances_picks cd_MChances_picks ct_MChances_picks),sl_MChances_picks⟩)
    (c_MChances_picks_:PySem.W.codeIn K cd_MChances_picks "Kind.picks"=true)
    (k_MChances_picks:PySem.W.keepIn K (.ref f_MChances_picks)=true)
    (a_MMusts_picks:PySem.W.findIn K (.ref c_Musts) "picks"=some (some (.ref f_MMusts_picks)))
    (i_MMusts_picks:PySem.W.isFn K (.ref f_MMusts_picks)=true)
    (l_MMusts_picks:K.lookup f_MMusts_picks=some ⟨oc_MMusts_picks,od_MMusts_picks,.func (PySem.W.fnOf "picks" "Kind.picks" (defArgs (inClass (top 36) 6)) (defBody (inClass (top 36) 6)) (defScope (inClass (top 36) 6)) .none kV_MMusts_picks dc_MMusts_picks pm_MMusts_picks an_MMusts_picks cd_MMusts_picks ct_MMusts_picks),sl_MMusts_picks⟩)
    (c_MMusts_picks_:PySem.W.codeIn K cd_MMusts_picks "Kind.picks"=true)
    (k_MMusts_picks:PySem.W.keepIn K (.ref f_MMusts_picks)=true)
    (a_MRests_picks:PySem.W.findIn K (.ref c_Rests) "picks"=some (some (.ref f_MRests_picks)))
    (i_MRests_picks:PySem.W.isFn K (.ref f_MRests_picks)=true)
    (l_MRests_picks:K.lookup f_MRests_picks=some ⟨oc_MRests_picks,od_MRests_picks,.func (PySem.W.fnOf "picks" "Kind.picks" (defArgs (inClass (top 36) 6)) (defBody (inClass (top 36) 6)) (defScope (inClass (top 36) 6)) .none kV_MRests_picks dc_MRests_picks pm_MRests_picks an_MRests_picks cd_MRests_picks ct_MRests_picks),sl_MRests_picks⟩)
    (c_MRests_picks_:PySem.W.codeIn K cd_MRests_picks "Kind.picks"=true)
    (k_MRests_picks:PySem.W.keepIn K (.ref f_MRests_picks)=true)
    (a_Dway_for:PySem.W.nsIn K mainGlobals "way_for"=some (some (.ref f_Dway_for)))
    (l_Dway_for:K.lookup f_Dway_for=some ⟨oc_Dway_for,od_Dway_for,.func (PySem.W.fnOf "way_for" "way_for" (defArgs (top 18)) (defBody (top 18)) (defScope (top 18)) .none kV_Dway_for dc_Dway_for pm_Dway_for an_Dway_for cd_Dway_for ct_Dway_for),sl_Dway_for⟩)
    (c_Dway_for_:PySem.W.codeIn K cd_Dway_for "way_for"=true)
    (k_Dway_for:PySem.W.keepIn K (.ref f_Dway_for)=true)
    (a_Dlaw_walked:PySem.W.nsIn K mainGlobals "_law_walked"=some (some (.ref f_Dlaw_walked)))
    (l_Dlaw_walked:K.lookup f_Dlaw_walked=some ⟨oc_Dlaw_walked,od_Dlaw_walked,.func (PySem.W.fnOf "_law_walked" "_law_walked" (defArgs (top 57)) (defBody (top 57)) (defScope (top 57)) .none kV_Dlaw_walked dc_Dlaw_walked pm_Dlaw_walked an_Dlaw_walked cd_Dlaw_walked ct_Dlaw_walked),sl_Dlaw_walked⟩)
    (c_Dlaw_walked_:PySem.W.codeIn K cd_Dlaw_walked "_law_walked"=true)
    (k_Dlaw_walked:PySem.W.keepIn K (.ref f_Dlaw_walked)=true)
    (a_Dlaw_refused:PySem.W.nsIn K mainGlobals "_law_refused"=some (some (.ref f_Dlaw_refused)))
    (l_Dlaw_refused:K.lookup f_Dlaw_refused=some ⟨oc_Dlaw_refused,od_Dlaw_refused,.func (PySem.W.fnOf "_law_refused" "_law_refused" (defArgs (top 58)) (defBody (top 58)) (defScope (top 58)) .none kV_Dlaw_refused dc_Dlaw_refused pm_Dlaw_refused an_Dlaw_refused cd_Dlaw_refused ct_Dlaw_refused),sl_Dlaw_refused⟩)
    (c_Dlaw_refused_:PySem.W.codeIn K cd_Dlaw_refused "_law_refused"=true)
    (k_Dlaw_refused:PySem.W.keepIn K (.ref f_Dlaw_refused)=true)
    (a_Dlaw:PySem.W.nsIn K mainGlobals "law"=some (some (.ref f_Dlaw)))
    (l_Dlaw:K.lookup f_Dlaw=some ⟨oc_Dlaw,od_Dlaw,.func (PySem.W.fnOf "law" "law" (defArgs (top 59)) (defBody (top 59)) (defScope (top 59)) .none kV_Dlaw dc_Dlaw pm_Dlaw an_Dlaw cd_Dlaw ct_Dlaw),sl_Dlaw⟩)
    (c_Dlaw_:PySem.W.codeIn K cd_Dlaw "law"=true)
    (k_Dlaw:PySem.W.keepIn K (.ref f_Dlaw)=true) :
    ∃ fd:FuncData,(∀ (s:Shared) (v:Value),BindsTo s fd ⟨[v],[]⟩ [("script",v)])∧∀ base:Heap,K.In base→base.Ns mainGlobals mg→FnOk l.prog w K mg base (CXE l.prog w) 42 fa fd ["script"] (spLaw K):=by
  have e:=hfa.symm.trans (PySem.W.mg_of X G a_Dlaw)
  cases e
  refine ⟨PySem.W.fnOf "law" "law" (defArgs (top 59)) (defBody (top 59)) (defScope (top 59)) .none kV_Dlaw dc_Dlaw pm_Dlaw an_Dlaw cd_Dlaw ct_Dlaw,fun s v=>.of_eq rfl,fun base _ _=>?_⟩
  have F_law:=fun_mk (st:=(top 59)) l_Dlaw c_Dlaw_ k_Dlaw
  let a:Adr:=⟨c_SumError,c_NoNet,c_NoWorth,c_NoPlace,c_NoPick,c_NoWay,c_Net,c_Kind,c_Fewest,c_Widest,c_Counted,c_Likeliest,c_Chances,c_Musts,c_Rests,t_MOST_PLACES,t_MOST_ROADS,t_WIDEST,t_MOST_RESTS⟩
  have T:Tx K mg a:=⟨PySem.W.mg_none_of X G z_isinstance,
    PySem.W.mg_none_of X G z_len,
    PySem.W.mg_none_of X G z_int,
    PySem.W.mg_none_of X G z_bool,
    PySem.W.mg_none_of X G z_tuple,
    PySem.W.mg_none_of X G z_list,
    PySem.W.mg_none_of X G z_ValueError,
    PySem.W.mg_none_of X G z_range,
    PySem.W.mg_none_of X G z_min,
    PySem.W.mg_none_of X G z_max,
    PySem.W.mg_none_of X G z_enumerate,
    PySem.W.mg_of X G g_MOST_PLACES,
    PySem.W.mg_of X G g_MOST_ROADS,
    PySem.W.mg_of X G g_WIDEST,
    PySem.W.mg_of X G g_MOST_RESTS,
    PySem.W.mg_of X G g_SumError,
    PySem.W.mg_of X G g_NoNet,
    PySem.W.mg_of X G g_NoWorth,
    PySem.W.mg_of X G g_NoPlace,
    PySem.W.mg_of X G g_NoPick,
    PySem.W.mg_of X G g_NoWay,
    PySem.W.mg_of X G g_Net,
    PySem.W.mg_of X G g_Kind,
    PySem.W.mg_of X G g_Fewest,
    PySem.W.mg_of X G g_Widest,
    PySem.W.mg_of X G g_Counted,
    PySem.W.mg_of X G g_Likeliest,
    PySem.W.mg_of X G g_Chances,
    PySem.W.mg_of X G g_Musts,
    PySem.W.mg_of X G g_Rests,
    PySem.W.mg_of X G g_SumError,
    ⟨PySem.W.mg_of X G g_NoNet,xo_NoNet⟩,
    ⟨xa_NoNet,xb_NoNet,xc_NoNet,xd_NoNet,xe_NoNet,xf_NoNet⟩,
    xm_NoNet_SumError,
    kt_NoNet_NoWay,
    kt_NoNet_ValueError,
    ⟨PySem.W.mg_of X G g_NoPick,xo_NoPick⟩,
    ⟨xa_NoPick,xb_NoPick,xc_NoPick,xd_NoPick,xe_NoPick,xf_NoPick⟩,
    xm_NoPick_SumError,
    kt_NoPick_NoWay,
    kt_NoPick_ValueError,
    ⟨PySem.W.mg_of X G g_NoPlace,xo_NoPlace⟩,
    ⟨xa_NoPlace,xb_NoPlace,xc_NoPlace,xd_NoPlace,xe_NoPlace,xf_NoPlace⟩,
    xm_NoPlace_SumError,
    kt_NoPlace_NoWay,
    kt_NoPlace_ValueError,
    ⟨PySem.W.mg_of X G g_NoWay,xo_NoWay⟩,
    ⟨xa_NoWay,xb_NoWay,xc_NoWay,xd_NoWay,xe_NoWay,xf_NoWay⟩,
    xm_NoWay_SumError,
    kt_NoWay_ValueError,
    ⟨PySem.W.mg_of X G g_NoWorth,xo_NoWorth⟩,
    ⟨xa_NoWorth,xb_NoWorth,xc_NoWorth,xd_NoWorth,xe_NoWorth,xf_NoWorth⟩,
    xm_NoWorth_SumError,
    kt_NoWorth_NoWay,
    kt_NoWorth_ValueError,
    mk_Net,
    kp_Net,
    na_Net_own_kind,
    na_Net_how_many,
    na_Net_own_roads,
    ⟨pg_Net,hd_Net,po_Net,sa_Net⟩,
    ⟨PySem.W.mg_of X G g_Fewest,mk_Fewest,in_Fewest,kp_Fewest⟩,
    ⟨PySem.W.mg_of X G g_Widest,mk_Widest,in_Widest,kp_Widest⟩,
    ⟨PySem.W.mg_of X G g_Counted,mk_Counted,in_Counted,kp_Counted⟩,
    ⟨PySem.W.mg_of X G g_Likeliest,mk_Likeliest,in_Likeliest,kp_Likeliest⟩,
    ⟨PySem.W.mg_of X G g_Chances,mk_Chances,in_Chances,kp_Chances⟩,
    ⟨PySem.W.mg_of X G g_Musts,mk_Musts,in_Musts,kp_Musts⟩,
    mk_Rests,
    kp_Rests,
    na_Rests_m,
    (fun kd hk=>by cases kd <;> first | exact ⟨pg_Fewest,hd_Fewest,po_Fewest,sa_Fewest⟩ | exact ⟨pg_Widest,hd_Widest,po_Widest,sa_Widest⟩ | exact ⟨pg_Counted,hd_Counted,po_Counted,sa_Counted⟩ | exact ⟨pg_Likeliest,hd_Likeliest,po_Likeliest,sa_Likeliest⟩ | exact ⟨pg_Chances,hd_Chances,po_Chances,sa_Chances⟩ | exact ⟨pg_Musts,hd_Musts,po_Musts,sa_Musts⟩ | exact ⟨pg_Rests,hd_Rests,po_Rests,sa_Rests⟩ | exact absurd hk (by simp [HasK]))⟩
  have D_divisor:=d_divisor (P:=l.prog) (w:=w) (base:=base) (defAt_mk (st:=(top 24)) X G a_Ddivisor l_Ddivisor c_Ddivisor_ k_Ddivisor)
  have M_Rests:=make_Rests (P:=l.prog) (w:=w) (base:=base) T (mthAt_mk (st:=(inClass (top 43) 0)) a_MRests_init i_MRests_init l_MRests_init c_MRests_init_ k_MRests_init)
  have D_law_cell_at:=d_cell (P:=l.prog) (w:=w) (base:=base) T (defAt_mk (st:=(top 45)) X G a_Dlaw_cell_at l_Dlaw_cell_at c_Dlaw_cell_at_ k_Dlaw_cell_at)
  have D_law_kind:=d_kind (P:=l.prog) (w:=w) (base:=base) T M_Rests (defAt_mk (st:=(top 47)) X G a_Dlaw_kind l_Dlaw_kind c_Dlaw_kind_ k_Dlaw_kind)
  have D_law_share:=d_share (P:=l.prog) (w:=w) (base:=base) hP T (defAt_mk (st:=(top 48)) X G a_Dlaw_share l_Dlaw_share c_Dlaw_share_ k_Dlaw_share)
  have D_law_none:=d_none (P:=l.prog) (w:=w) (base:=base) (defAt_mk (st:=(top 49)) X G a_Dlaw_none l_Dlaw_none c_Dlaw_none_ k_Dlaw_none)
  have D_law_rest:=d_rest (P:=l.prog) (w:=w) (base:=base) (defAt_mk (st:=(top 50)) X G a_Dlaw_rest l_Dlaw_rest c_Dlaw_rest_ k_Dlaw_rest)
  have D_law_worth:=d_worth (P:=l.prog) (w:=w) (base:=base) T D_law_none D_law_rest D_law_share (defAt_mk (st:=(top 53)) X G a_Dlaw_worth l_Dlaw_worth c_Dlaw_worth_ k_Dlaw_worth)
  have D_lowest:=d_lowest (P:=l.prog) (w:=w) (base:=base) hP D_divisor (defAt_mk (st:=(top 26)) X G a_Dlowest l_Dlowest c_Dlowest_ k_Dlowest)
  have D_added:=d_added (P:=l.prog) (w:=w) (base:=base) D_lowest (defAt_mk (st:=(top 27)) X G a_Dadded l_Dadded c_Dadded_ k_Dadded)
  have D_multiplied:=d_multiplied (P:=l.prog) (w:=w) (base:=base) D_lowest (defAt_mk (st:=(top 28)) X G a_Dmultiplied l_Dmultiplied c_Dmultiplied_ k_Dmultiplied)
  have D_greater:=d_greater (P:=l.prog) (w:=w) (base:=base) (defAt_mk (st:=(top 29)) X G a_Dgreater l_Dgreater c_Dgreater_ k_Dgreater)
  have D_lacking_to_one:=d_lacking (P:=l.prog) (w:=w) (base:=base) D_lowest (defAt_mk (st:=(top 30)) X G a_Dlacking_to_one l_Dlacking_to_one c_Dlacking_to_one_ k_Dlacking_to_one)
  have D_raised:=d_raised (P:=l.prog) (w:=w) (base:=base) (defAt_mk (st:=(top 35)) X G a_Draised l_Draised c_Draised_ k_Draised)
  have V_none:=v_none (P:=l.prog) (w:=w) (base:=base) T ⟨(mthAt_mk (st:=(inClass (top 37) 0)) a_MFewest_none i_MFewest_none l_MFewest_none c_MFewest_none_ k_MFewest_none),(mthAt_mk (st:=(inClass (top 38) 0)) a_MWidest_none i_MWidest_none l_MWidest_none c_MWidest_none_ k_MWidest_none),(mthAt_mk (st:=(inClass (top 39) 0)) a_MCounted_none i_MCounted_none l_MCounted_none c_MCounted_none_ k_MCounted_none),(mthAt_mk (st:=(inClass (top 40) 0)) a_MLikeliest_none i_MLikeliest_none l_MLikeliest_none c_MLikeliest_none_ k_MLikeliest_none),(mthAt_mk (st:=(inClass (top 41) 0)) a_MChances_none i_MChances_none l_MChances_none c_MChances_none_ k_MChances_none),(mthAt_mk (st:=(inClass (top 42) 0)) a_MMusts_none i_MMusts_none l_MMusts_none c_MMusts_none_ k_MMusts_none),(mthAt_mk (st:=(inClass (top 43) 1)) a_MRests_none i_MRests_none l_MRests_none c_MRests_none_ k_MRests_none)⟩
  have V_rest:=v_rest (P:=l.prog) (w:=w) (base:=base) T ⟨(mthAt_mk (st:=(inClass (top 37) 1)) a_MFewest_rest i_MFewest_rest l_MFewest_rest c_MFewest_rest_ k_MFewest_rest),(mthAt_mk (st:=(inClass (top 38) 1)) a_MWidest_rest i_MWidest_rest l_MWidest_rest c_MWidest_rest_ k_MWidest_rest),(mthAt_mk (st:=(inClass (top 39) 1)) a_MCounted_rest i_MCounted_rest l_MCounted_rest c_MCounted_rest_ k_MCounted_rest),(mthAt_mk (st:=(inClass (top 40) 1)) a_MLikeliest_rest i_MLikeliest_rest l_MLikeliest_rest c_MLikeliest_rest_ k_MLikeliest_rest),(mthAt_mk (st:=(inClass (top 41) 1)) a_MChances_rest i_MChances_rest l_MChances_rest c_MChances_rest_ k_MChances_rest),(mthAt_mk (st:=(inClass (top 42) 1)) a_MMusts_rest i_MMusts_rest l_MMusts_rest c_MMusts_rest_ k_MMusts_rest),(mthAt_mk (st:=(inClass (top 43) 2)) a_MRests_rest i_MRests_rest l_MRests_rest c_MRests_rest_ k_MRests_rest)⟩
  have V_together:=v_together (P:=l.prog) (w:=w) (base:=base) T D_greater D_added ⟨(mthAt_mk (st:=(inClass (top 37) 3)) a_MFewest_together i_MFewest_together l_MFewest_together c_MFewest_together_ k_MFewest_together),(mthAt_mk (st:=(inClass (top 38) 3)) a_MWidest_together i_MWidest_together l_MWidest_together c_MWidest_together_ k_MWidest_together),(mthAt_mk (st:=(inClass (top 39) 3)) a_MCounted_together i_MCounted_together l_MCounted_together c_MCounted_together_ k_MCounted_together),(mthAt_mk (st:=(inClass (top 40) 3)) a_MLikeliest_together i_MLikeliest_together l_MLikeliest_together c_MLikeliest_together_ k_MLikeliest_together),(mthAt_mk (st:=(inClass (top 41) 3)) a_MChances_together i_MChances_together l_MChances_together c_MChances_together_ k_MChances_together),(mthAt_mk (st:=(inClass (top 42) 3)) a_MMusts_together i_MMusts_together l_MMusts_together c_MMusts_together_ k_MMusts_together),(mthAt_mk (st:=(inClass (top 43) 4)) a_MRests_together i_MRests_together l_MRests_together c_MRests_together_ k_MRests_together)⟩
  have V_behind:=v_behind (P:=l.prog) (w:=w) (base:=base) T D_multiplied D_raised ⟨(mthAt_mk (st:=(inClass (top 37) 4)) a_MFewest_behind i_MFewest_behind l_MFewest_behind c_MFewest_behind_ k_MFewest_behind),(mthAt_mk (st:=(inClass (top 38) 4)) a_MWidest_behind i_MWidest_behind l_MWidest_behind c_MWidest_behind_ k_MWidest_behind),(mthAt_mk (st:=(inClass (top 39) 4)) a_MCounted_behind i_MCounted_behind l_MCounted_behind c_MCounted_behind_ k_MCounted_behind),(mthAt_mk (st:=(inClass (top 40) 4)) a_MLikeliest_behind i_MLikeliest_behind l_MLikeliest_behind c_MLikeliest_behind_ k_MLikeliest_behind),(mthAt_mk (st:=(inClass (top 41) 4)) a_MChances_behind i_MChances_behind l_MChances_behind c_MChances_behind_ k_MChances_behind),(mthAt_mk (st:=(inClass (top 42) 4)) a_MMusts_behind i_MMusts_behind l_MMusts_behind c_MMusts_behind_ k_MMusts_behind),(mthAt_mk (st:=(inClass (top 43) 5)) a_MRests_behind i_MRests_behind l_MRests_behind c_MRests_behind_ k_MRests_behind)⟩
  have D_is_from:=d_is_from (P:=l.prog) (w:=w) (base:=base) T (defAt_mk (st:=(top 34)) X G a_Dis_from l_Dis_from c_Dis_from_ k_Dis_from)
  have D_is_share:=d_is_share (P:=l.prog) (w:=w) (base:=base) T D_divisor (defAt_mk (st:=(top 25)) X G a_Dis_share l_Dis_share c_Dis_share_ k_Dis_share)
  have V_is_worth:=v_is_worth (P:=l.prog) (w:=w) (base:=base) T D_is_from D_is_share ⟨(mthAt_mk (st:=(inClass (top 37) 2)) a_MFewest_is_worth i_MFewest_is_worth l_MFewest_is_worth c_MFewest_is_worth_ k_MFewest_is_worth),(mthAt_mk (st:=(inClass (top 38) 2)) a_MWidest_is_worth i_MWidest_is_worth l_MWidest_is_worth c_MWidest_is_worth_ k_MWidest_is_worth),(mthAt_mk (st:=(inClass (top 39) 2)) a_MCounted_is_worth i_MCounted_is_worth l_MCounted_is_worth c_MCounted_is_worth_ k_MCounted_is_worth),(mthAt_mk (st:=(inClass (top 40) 2)) a_MLikeliest_is_worth i_MLikeliest_is_worth l_MLikeliest_is_worth c_MLikeliest_is_worth_ k_MLikeliest_is_worth),(mthAt_mk (st:=(inClass (top 41) 2)) a_MChances_is_worth i_MChances_is_worth l_MChances_is_worth c_MChances_is_worth_ k_MChances_is_worth),(mthAt_mk (st:=(inClass (top 42) 2)) a_MMusts_is_worth i_MMusts_is_worth l_MMusts_is_worth c_MMusts_is_worth_ k_MMusts_is_worth),(mthAt_mk (st:=(inClass (top 43) 3)) a_MRests_is_worth i_MRests_is_worth l_MRests_is_worth c_MRests_is_worth_ k_MRests_is_worth)⟩
  have D_check_numbers:=d_check_numbers (P:=l.prog) (w:=w) (base:=base) T (defAt_mk (st:=(top 11)) X G a_Dcheck_numbers l_Dcheck_numbers c_Dcheck_numbers_ k_Dcheck_numbers)
  have D_check_ends:=d_check_ends (P:=l.prog) (w:=w) (base:=base) T (defAt_mk (st:=(top 12)) X G a_Dcheck_ends l_Dcheck_ends c_Dcheck_ends_ k_Dcheck_ends)
  have V_may_start_together:=v_may (P:=l.prog) (w:=w) (base:=base) T V_none D_is_share D_added D_lacking_to_one ⟨(mthAt_mk (st:=(inClass (top 36) 7)) a_MFewest_may_start_together i_MFewest_may_start_together l_MFewest_may_start_together c_MFewest_may_start_together_ k_MFewest_may_start_together),(mthAt_mk (st:=(inClass (top 36) 7)) a_MWidest_may_start_together i_MWidest_may_start_together l_MWidest_may_start_together c_MWidest_may_start_together_ k_MWidest_may_start_together),(mthAt_mk (st:=(inClass (top 36) 7)) a_MCounted_may_start_together i_MCounted_may_start_together l_MCounted_may_start_together c_MCounted_may_start_together_ k_MCounted_may_start_together),(mthAt_mk (st:=(inClass (top 36) 7)) a_MLikeliest_may_start_together i_MLikeliest_may_start_together l_MLikeliest_may_start_together c_MLikeliest_may_start_together_ k_MLikeliest_may_start_together),(mthAt_mk (st:=(inClass (top 41) 6)) a_MChances_may_start_together i_MChances_may_start_together l_MChances_may_start_together c_MChances_may_start_together_ k_MChances_may_start_together),(mthAt_mk (st:=(inClass (top 36) 7)) a_MMusts_may_start_together i_MMusts_may_start_together l_MMusts_may_start_together c_MMusts_may_start_together_ k_MMusts_may_start_together),(mthAt_mk (st:=(inClass (top 36) 7)) a_MRests_may_start_together i_MRests_may_start_together l_MRests_may_start_together c_MRests_may_start_together_ k_MRests_may_start_together)⟩
  have D_check_starts:=d_check_starts (P:=l.prog) (w:=w) (base:=base) T V_may_start_together (defAt_mk (st:=(top 13)) X G a_Dcheck_starts l_Dcheck_starts c_Dcheck_starts_ k_Dcheck_starts)
  have D_check_worths:=d_check_worths (P:=l.prog) (w:=w) (base:=base) T V_is_worth (defAt_mk (st:=(top 14)) X G a_Dcheck_worths l_Dcheck_worths c_Dcheck_worths_ k_Dcheck_worths)
  have M_Net:=make_Net (P:=l.prog) (w:=w) (base:=base) T D_check_numbers D_check_ends D_check_starts D_check_worths (mthAt_mk (st:=(inClass (top 16) 0)) a_MNet_init i_MNet_init l_MNet_init c_MNet_init_ k_MNet_init)
  have V_kind:=v_kind (P:=l.prog) (w:=w) (base:=base) T (mthAt_mk (st:=(inClass (top 16) 1)) a_MNet_kind i_MNet_kind l_MNet_kind c_MNet_kind_ k_MNet_kind)
  have V_places:=v_places (P:=l.prog) (w:=w) (base:=base) T (mthAt_mk (st:=(inClass (top 16) 2)) a_MNet_places i_MNet_places l_MNet_places c_MNet_places_ k_MNet_places)
  have V_roads:=v_roads (P:=l.prog) (w:=w) (base:=base) T (mthAt_mk (st:=(inClass (top 16) 3)) a_MNet_roads i_MNet_roads l_MNet_roads c_MNet_roads_ k_MNet_roads)
  have D_law_tog:=d_tog (P:=l.prog) (w:=w) (base:=base) T D_law_share (defAt_mk (st:=(top 51)) X G a_Dlaw_tog l_Dlaw_tog c_Dlaw_tog_ k_Dlaw_tog)
  have D_law_beh:=d_beh (P:=l.prog) (w:=w) (base:=base) T D_law_share (defAt_mk (st:=(top 52)) X G a_Dlaw_beh l_Dlaw_beh c_Dlaw_beh_ k_Dlaw_beh)
  have D_law_whole:=d_whole (P:=l.prog) (w:=w) (base:=base) T (defAt_mk (st:=(top 46)) X G a_Dlaw_whole l_Dlaw_whole c_Dlaw_whole_ k_Dlaw_whole)
  have D_law_thinned:=d_thinned (P:=l.prog) (w:=w) (base:=base) T D_law_tog D_law_share (defAt_mk (st:=(top 54)) X G a_Dlaw_thinned l_Dlaw_thinned c_Dlaw_thinned_ k_Dlaw_thinned)
  have D_law_net:=d_net (P:=l.prog) (w:=w) (base:=base) T D_law_cell_at D_law_worth D_law_thinned (defAt_mk (st:=(top 55)) X G a_Dlaw_net l_Dlaw_net c_Dlaw_net_ k_Dlaw_net)
  have D_check_place:=d_check_place (P:=l.prog) (w:=w) (base:=base) T V_places (defAt_mk (st:=(top 15)) X G a_Dcheck_place l_Dcheck_place c_Dcheck_place_ k_Dcheck_place)
  have D_law_steps:=d_law_steps (P:=l.prog) (w:=w) (base:=base) T D_law_none D_law_rest D_law_tog D_law_beh (defAt_mk (st:=(top 56)) X G a_Dlaw_steps l_Dlaw_steps c_Dlaw_steps_ k_Dlaw_steps)
  have D_betters:=d_betters (P:=l.prog) (w:=w) (base:=base) T V_together (defAt_mk (st:=(top 21)) X G a_Dbetters l_Dbetters c_Dbetters_ k_Dbetters)
  have D_best_place:=d_best_place (P:=l.prog) (w:=w) (base:=base) T D_betters (defAt_mk (st:=(top 20)) X G a_Dbest_place l_Dbest_place c_Dbest_place_ k_Dbest_place)
  have D_offer:=d_offer (P:=l.prog) (w:=w) (base:=base) T V_none D_betters (defAt_mk (st:=(top 22)) X G a_Doffer l_Doffer c_Doffer_ k_Doffer)
  have D_best_ways:=d_best_ways (P:=l.prog) (w:=w) (base:=base) T V_kind V_roads V_rest V_behind D_best_place D_offer (defAt_mk (st:=(top 19)) X G a_Dbest_ways l_Dbest_ways c_Dbest_ways_ k_Dbest_ways)
  have V_picks:=v_picks (P:=l.prog) (w:=w) (base:=base) T ⟨(mthAt_mk (st:=(inClass (top 37) 5)) a_MFewest_picks i_MFewest_picks l_MFewest_picks c_MFewest_picks_ k_MFewest_picks),(mthAt_mk (st:=(inClass (top 38) 5)) a_MWidest_picks i_MWidest_picks l_MWidest_picks c_MWidest_picks_ k_MWidest_picks),(mthAt_mk (st:=(inClass (top 36) 6)) a_MCounted_picks i_MCounted_picks l_MCounted_picks c_MCounted_picks_ k_MCounted_picks),(mthAt_mk (st:=(inClass (top 40) 5)) a_MLikeliest_picks i_MLikeliest_picks l_MLikeliest_picks c_MLikeliest_picks_ k_MLikeliest_picks),(mthAt_mk (st:=(inClass (top 36) 6)) a_MChances_picks i_MChances_picks l_MChances_picks c_MChances_picks_ k_MChances_picks),(mthAt_mk (st:=(inClass (top 36) 6)) a_MMusts_picks i_MMusts_picks l_MMusts_picks c_MMusts_picks_ k_MMusts_picks),(mthAt_mk (st:=(inClass (top 36) 6)) a_MRests_picks i_MRests_picks l_MRests_picks c_MRests_picks_ k_MRests_picks)⟩
  have D_way_for:=d_way_for (P:=l.prog) (w:=w) (base:=base) T D_check_place V_kind V_picks D_best_ways (defAt_mk (st:=(top 18)) X G a_Dway_for l_Dway_for c_Dway_for_ k_Dway_for)
  have D_law_walked:=d_law_walked (P:=l.prog) (w:=w) (base:=base) T D_law_rest D_law_beh D_law_whole (defAt_mk (st:=(top 57)) X G a_Dlaw_walked l_Dlaw_walked c_Dlaw_walked_ k_Dlaw_walked)
  have D_law_refused:=d_law_refused (P:=l.prog) (w:=w) (base:=base) T D_way_for (defAt_mk (st:=(top 58)) X G a_Dlaw_refused l_Dlaw_refused c_Dlaw_refused_ k_Dlaw_refused)
  exact ok_law T D_law_cell_at D_law_none D_law_kind D_law_net M_Net D_way_for D_law_refused D_law_walked D_law_steps D_law_tog F_law
theorem walk {l:PySem.W.OpenLaw} {q:Program} {loose:List Str} {XP:(Str→Option Value)→Heap→Prop} {YP:World→Heap→Prop} {d:DefRec} {K:Params→PySem.W.Frag} (hn:l.most=some 63) (hdf:d.params.defaults=[]) (him:PyProof.Rows.importsNone q=true)
    (hY:∀ (w:World) (h:Heap),YP w h→(K w.params).In h)
    (F:∀ (w:World) (mg:Str→Option Value) (fa:Addr) (h:Heap),(K w.params).In h→h.Ns mainGlobals mg→mg d.name=some (.ref fa) →
      ∃ fd:FuncData,(∀ (s:Shared) (u:Value),BindsTo s fd ⟨[u],[]⟩ [("script",u)])∧∀ base:Heap,(K w.params).In base→base.Ns mainGlobals mg→FnOk l.prog w (K w.params) mg base (CXE l.prog w) 42 fa fd ["script"] (spLaw (K w.params))) :
    PySem.W.WalkO q loose XP YP l.row.toRowW d [] (fun f vs=>PySem.call f vs) :=
  L2.walk_of (n:=63) (k:=42) (x:="script") (CX:=fun w=>CXE l.prog w) (sp:=fun w=>spLaw (K w.params)) hn (by decide) hdf ⟨rfl,by decide,by decide,rfl⟩ hY F (fun _ _ a ns hl _ hS=>⟨a,ns,rfl,hS,hl,fun _=>rfl⟩)
    (fun _ _ _ _ _ ⟨_,_,_,_,_,_,_,_,_,z⟩=>z) him
end
end K14
namespace PySem.W.Fast
def tw17469549827283079025:=()
def tw15702397435876775866:=()
def tw2874300180841898613:=()
def tw5861972558988992910:=()
def tw14401150970306679001:=()
def tw3006595328784370033:=()
def tw12178823076552012091:=()
def tw14672062727808136173:=()
def tw897086375245645015:=()
def tw17380275900468000297:=()
def tw2685901283397659052:=()
def tw10786643794065795229:=()
def tw9274367923797589570:=()
def tw17722695397163745417:=()
def tw11279268700556549518:=()
def tw7647494200792580036:=()
def tw11448023287499071729:=()
def tw12382561887444247412:=()
def tw1055093855705373298:=()
def tw11359207200859970481:=()
def tw13162616050696748563:=()
def tw16759421877091644203:=()
def tw8568190574164141122:=()
def tw5270737840954328432:=()
def tw2785890975223992108:=()
def tw11815666101822666429:=()
def tw13013835262386228767:=()
def tw5869410253751954095:=()
def tw11645013521884007237:=()
def tw8352834781631231357:=()
def tw4213062870378364124:=()
def tw4628952574700507390:=()
def tw16517364165626123187:=()
def tw3030710108723035556:=()
def tw16684384740597673410:=()
def tw13230734370102310360:=()
def tw11019626654897466935:=()
def tw4580985700735565809:=()
def tw10941743555150558402:=()
def tw10277161411562521269:=()
def tw12408202209516201968:=()
def tw8386855406035069202:=()
def tw843056644599978295:=()
def tw1696150431555898121:=()
def tw1027632751301997272:=()
def tw1334986542923624264:=()
def tw1162624706074257501:=()
def tw17788109422330348388:=()
def tw3967563571853545884:=()
def tw7356512046067479170:=()
def tw11085658875688159477:=()
def tw17562134634093014965:=()
def tw6902048987966541799:=()
def tw9688813130685579069:=()
def tw9855030724469772980:=()
def tw16737230600862383106:=()
def tw1854645205105467744:=()
def tw14406899960169534276:=()
def tw5033903589389340221:=()
def tw678494025727849441:=()
def tw12292537017185267496:=()
def tw9792433407015483563:=()
def tw14390744153150992479:=()
def tw12037833619493925973:=()
def tw5663202025742648666:=()
def tw2649549145779268003:=()
def tw16854449943428516738:=()
def tw17035637803252853313:=()
def tw10409636469112042405:=()
def tw951040062092220:=()
def tw16064254637828805294:=()
def tw4715445199527341445:=()
def tw7998881468281025063:=()
def tw779996982967837770:=()
def tw9397981601998635805:=()
def tw8057324052738669005:=()
def tw13838102277153806192:=()
def tw8012525337213521057:=()
def tw17927281330897575246:=()
def tw4288429467816486207:=()
def tw13142125923819458185:=()
def tw4815269949264311700:=()
def tw3762519460602564021:=()
def tw17995047338072688956:=()
def tw5306808855412933668:=()
def tw11676707311758610386:=()
def tw884511386505234308:=()
def tw15457647815130914553:=()
def tw12970403526002498242:=()
def tw12865562341198320372:=()
def tw4696965611620988179:=()
def tw1715095119344322951:=()
def tw1372011055798232193:=()
def tw1842364453516885116:=()
def tw1436887912742329726:=()
def tw6597779767731442113:=()
def tw2847176722836915359:=()
def tw18424888541542670004:=()
def tw3586717396072354081:=()
def tw16485320970463950588:=()
def tw13047176527496874759:=()
def tw6563473324958830627:=()
def tw7686024973672824339:=()
def tw5938452249991903700:=()
def tw15455321229211291478:=()
def tw1917315359584928713:=()
def tw11798834431472680182:=()
def tw9854291331861965774:=()
def tw5142486125010754721:=()
def tw1842027195934946345:=()
def tw2097957241681246713:=()
def tw18200992794428468165:=()
def tw3615701181977394265:=()
def tw11633532142591508476:=()
def tw7956646823049805196:=()
def tw10088160536409386585:=()
def tw17287916807737627508:=()
def tw9847740574781361587:=()
def tw2359692708439669191:=()
def tw5604568728750192612:=()
def tw17281538933815821792:=()
def tw6689049280986865943:=()
def tw161684471020930084:=()
def tw10789161806056565929:=()
def tw8766787087032045749:=()
def tw6818623787629651218:=()
def tw17574444229918135255:=()
def tw5629634476562813472:=()
def tw12068291492415304523:=()
def tw11937378102104930764:=()
def tw10909806294278496714:=()
def tw8677250501232427056:=()
def tw17644342595576951342:=()
def tw11108347843482318499:=()
def tw11443002666154926386:=()
def tw3169796886355066527:=()
def tw5676931484511593306:=()
def tw15965521162395821718:=()
def tw13507786192175699874:=()
def tw15149675023740054680:=()
def tw8643107613640666785:=()
def tw4668212655079616826:=()
def tw719770281421974786:=()
def tw3627748399346707432:=()
def tw18134965929114700771:=()
def tw4825062284224027999:=()
def tw13220507450863766531:=()
def tw9317449355877425208:=()
def tw16744686634770647048:=()
def tw2005751080065405221:=()
def tw10395333183846863579:=()
def tw15392694919725790024:=()
def tw7805955348269278165:=()
def tw7857646579077160594:=()
def tw12622813100278235398:=()
def tw16032768899192747527:=()
def tw15708742762614573959:=()
def tw13393047370277044938:=()
def tw293394487992563153:=()
def tw13742120518705329462:=()
def tw14628423465644960274:=()
def tw17658912709674860953:=()
def tw16372333190703846234:=()
def tw16674277085432795113:=()
def tw10555481410902418728:=()
def tw10958017812263732868:=()
def tw6097743674031514664:=()
def tw4031716277646893094:=()
def tw8013511556397642846:=()
def tw15318678858852041063:=()
def tw17214819141926805983:=()
def tw1057046395388215079:=()
def tw3069493559223941546:=()
def tw13910374032371528429:=()
def tw1875285834023282004:=()
def tw13152597181760133329:=()
def tw5305412167961336496:=()
def tw5735281740625333950:=()
def tw8896011193294441682:=()
def tw8924891091139367619:=()
def tw4924070838264734171:=()
def tw18045572332874441738:=()
def tw8691685875626135756:=()
def tw11857105323541075506:=()
def tw17003738872963610478:=()
def tw3162348051403423947:=()
def tw10747790260604472532:=()
def tw15821995848881745387:=()
def tw17092158470555900349:=()
def tw2765605391489318523:=()
def tw7055959869900226376:=()
def tw13771778165590442134:=()
def tw13872344597771872110:=()
def tw1032902291676855681:=()
def tw10139691858939824289:=()
def tw875130444510277479:=()
def tw18215283273232680429:=()
def tw14090161553811256982:=()
def tw8099414273638884543:=()
def tw7621708989984892406:=()
def tw1436480316398702975:=()
def tw4121499506307910215:=()
def tw14350279712293554904:=()
def tw10110207186673362012:=()
def tw1269084572203521532:=()
def tw2338942010810224547:=()
def tw4198612689540826533:=()
def tw4183684440365328110:=()
def tw4141591584887013854:=()
def tw16909103515107490045:=()
def tw12519559215807674757:=()
def tw10198116324166553109:=()
def tw17076411379996805603:=()
def tw11052098515786138844:=()
def tw430647689450094219:=()
def tw9794299834560428367:=()
def tw6889424896907862437:=()
def tw14625024877439144175:=()
def tw5112552761855169415:=()
def tw8322956629130876457:=()
def tw5381983969759717692:=()
def tw9170790438822983842:=()
def tw2637412601469763048:=()
def tw1677881402563154908:=()
def tw17462451285911031699:=()
def tw13845980158923611399:=()
def tw7765836168858432956:=()
def tw1277372058475922959:=()
def tw11479066567590673787:=()
def tw4964310560968292523:=()
def tw9983607979039848540:=()
def tw9902120456112409951:=()
def tw8810104280623091150:=()
def tw7950757185141202027:=()
def tw5250769757850945029:=()
def tw17586780090502958845:=()
def tw7017258533918613329:=()
def tw13050593465924825179:=()
def tw5463844151869288213:=()
def tw4813063499355561966:=()
def tw1258303583144422229:=()
def tw14006649142278105982:=()
def tw1718535033239882812:=()
def tw12065286419942861862:=()
def tw1555061984620927266:=()
def tw16624856646064542709:=()
def tw7650550397562240833:=()
def tw5506977475629066696:=()
def tw7044171538598747394:=()
def tw1672307275973942317:=()
def tw4031616382756633122:=()
def tw1357947736722672478:=()
def tw17649178022618068616:=()
def tw13991319428388709661:=()
def tw12280685500144801297:=()
def tw13095770672319959671:=()
def tw14659624589848210800:=()
def tw3373979749187508698:=()
def tw9972722129141077621:=()
def tw16752000615291971580:=()
def tw5232532595416479366:=()
def tw12533083364774036026:=()
def tw7214769533136334819:=()
def tw9262172273830102875:=()
def tw3635735030011875405:=()
def tw2341005559068394891:=()
def tw17181172348207062646:=()
def tw7313144974889468513:=()
def tw13226944617303980616:=()
def tw7564216272391760767:=()
def tw11664831238077971927:=()
def tw3474454437547628185:=()
def tw16684663331649481637:=()
def tw9489325404044442868:=()
def tw5197685766674354908:=()
def tw7404620306354282460:=()
def tw16711125616892084758:=()
def tw12499997792420732954:=()
def tw16406089134205990874:=()
def tw5729248437421308924:=()
def tw12474635075807035856:=()
def tw2286369340752900144:=()
def tw7559467151933504810:=()
def tw18405716043410093233:=()
def tw7085938636659767975:=()
def tw16652252949243150885:=()
def tw15615824585916845565:=()
def tw4955521331183049629:=()
def tw14573447303859184834:=()
def tw17226534593552796237:=()
def tw1661567614850868456:=()
def tw5633941367382928514:=()
def tw16768389166572074470:=()
def tw16062376115829243789:=()
def tw16718414885818525091:=()
def tw9130142803565711844:=()
def tw14718937784777979503:=()
def tw13875216278672674433:=()
def tw11308515423721288:=()
def tw1637454074556641118:=()
def tw15721220200539965629:=()
def tw14582806804840245319:=()
def tw6310771731560445256:=()
def tw2887922324469775614:=()
def tw9009994791628870800:=()
def tw805043939493364529:=()
def tw12499621845081064945:=()
def tw9339076514285452332:=()
def tw4086609728456585253:=()
def tw2011179586442825550:=()
def tw14001368192657869143:=()
def tw2283795053209726722:=()
def tw1544989830543195509:=()
def tw11540524477081387309:=()
def tw2462844119039595976:=()
def tw823551940358729326:=()
def tw8079328574125911981:=()
def tw4588595736510119661:=()
def tw2021033898949325634:=()
def tw16680165134737774463:=()
def tw9667090840326005302:=()
def tw1595892091836365662:=()
def tw8490980012986989620:=()
def tw7985883189641628556:=()
def tw2696438860165813813:=()
def tw4849068023829997500:=()
def tw5134291029865477295:=()
def tw13320187944694464365:=()
def tw7364107435380610904:=()
def tw2285829541626003994:=()
def tw17480400491649681085:=()
def tw14591687606726375529:=()
def tw7958761227839400079:=()
def tw2693934641974611634:=()
def tw14156605520119466604:=()
def tw1961991949170790887:=()
def tw12494422004711356964:=()
def tw4877869173699781434:=()
def tw7556659479508103525:=()
def tw2999056387969540773:=()
def tw3707024702904234068:=()
def tw6509063272016285597:=()
def tw7640086960007024619:=()
def tw15428039053451108840:=()
def tw14206727442780179278:=()
def tw3836525568857878731:=()
def tw3641127141842092613:=()
def tw3145733267408342800:=()
def tw15379906499431602118:=()
def tw16619190124030567962:=()
def tw897998454842171145:=()
def tw1241949242304870457:=()
def tw7340419020789733004:=()
def tw4780217143477716856:=()
def tw1213923586686817552:=()
def tw17334193687063799218:=()
def tw5593616232154912199:=()
def tw9779612408659959106:=()
def tw5733090138501437177:=()
def tw4052095828203816128:=()
def tw15106160883167221387:=()
def tw11033892864940743613:=()
def tw10740333976902247880:=()
def tw15092685382893424362:=()
def tw17244477171862023392:=()
def tw4644836422782089986:=()
def tw742680928457505760:=()
def tw8852072128373695245:=()
def tw15088542491013746737:=()
def tw8581199416810004355:=()
def tw5002788570006953939:=()
def tw18204632984421140238:=()
def tw5106241837487729924:=()
def tw9743171057595321458:=()
def tw1759637187922592680:=()
def tw11963870668541096849:=()
def tw3228237124515687236:=()
def tw3546627576597336604:=()
def tw4594088732918244715:=()
def tw11775637202674363079:=()
def tw13586877414484737462:=()
def tw11774471890511605779:=()
def tw1074580799100571524:=()
def tw8676134759067316602:=()
def tw15640202430597334556:=()
def tw16378982778747545092:=()
def tw11752785945976311697:=()
def tw5772788969108004181:=()
def tw1612540704744300041:=()
def tw542097829786496604:=()
def tw257506382829813892:=()
def tw16563548016328817300:=()
def tw11931457076578566252:=()
def tw4942956572719265315:=()
def tw8472143316529310095:=()
def tw16047567076226524700:=()
def tw9343177670423314345:=()
def tw3612262706814522654:=()
def tw10106282499104770801:=()
def tw15696740294242037081:=()
def tw4498844467763446675:=()
def tw7974508584726206387:=()
def tw12973249742142187187:=()
def tw10497244262076987394:=()
def tw7262623246870390748:=()
def tw17889769953413245144:=()
def tw12660589901889359520:=()
def tw3009550466112190556:=()
def tw2241384592745428992:=()
def tw18020663086459346958:=()
def tw4919320147289280273:=()
def tw17367484842486812751:=()
def tw8855101093538916303:=()
def tw15209740674086245635:=()
def tw3609597590484921101:=()
def tw2038736738626760813:=()
def tw16159706921859979539:=()
def tw15546374430084481522:=()
def tw14327873970284299628:=()
def tw7017255764342313491:=()
def tw9451003403791600951:=()
def tw18020803273141430236:=()
def tw2788566477969658315:=()
def tw8549324846020336359:=()
def tw16424760955027412296:=()
def tw9540642895529454289:=()
def tw4501063171927200147:=()
def tw16865449447978477420:=()
def tw12055810223230488277:=()
def tw5142787601730394816:=()
def tw16660390792610327962:=()
def tw11128675399522687129:=()
def tw15603136438486421612:=()
def tw12247653121870467815:=()
def tw7153806448094039378:=()
def tw1825790170570936831:=()
def tw4567635155383266282:=()
def tw14308824991314787398:=()
def tw6948299487852293697:=()
def tw9228859494312551105:=()
def tw16251687230574371745:=()
def tw10190736296207003481:=()
def tw7044829005449978681:=()
def tw16541198362025764492:=()
def tw12546752232544233509:=()
def tw17576770420333389830:=()
def tw5787402604368931164:=()
def tw13347787266631122452:=()
def tw3034863843472422007:=()
def tw7872170672015982208:=()
def tw6528969923167910122:=()
def tw1405678334018380267:=()
def tw5017499407943316513:=()
def tw18300268564041305355:=()
def tw12805065404388631612:=()
def tw10245440038316559018:=()
def tw1429066644718574167:=()
def tw12150611478784400645:=()
def tw5843759594462948276:=()
def tw12933733128969375454:=()
def tw119465451796642065:=()
def tw18124838241472052493:=()
def tw10891152348290922897:=()
def tw10352149457416616513:=()
def tw2343447890219206435:=()
def tw854997236366715983:=()
def tw6355354638694170421:=()
def tw8279708323367429795:=()
def tw16085550692661870977:=()
def tw11359398737461549012:=()
def tw6836229628688337297:=()
def tw3327422992064021397:=()
def tw2840098829395956006:=()
def tw9892351867724403319:=()
def tw16114981128007007628:=()
def tw2186782574768364913:=()
def tw12291051155196144900:=()
def tw3861735556368839309:=()
def tw16956198633759849405:=()
def tw14447594074801321404:=()
def tw15729545169488057007:=()
def tw8909536671492338519:=()
def tw12402720496328194736:=()
def tw13440990835332202993:=()
def tw13197754754896753085:=()
def tw4629730117834266314:=()
def tw15491826981939581490:=()
def tw8979407716184328616:=()
def tw6417024028594396228:=()
def tw9066258100582190121:=()
def tw18012129180854132084:=()
def tw10788570410705869143:=()
def tw4056060702136782971:=()
def tw12668486974928909539:=()
def tw5037777360389270522:=()
def tw2675952786578229165:=()
def tw16111361203019343019:=()
def tw14420528325392401488:=()
def tw10108297651694788746:=()
def tw11889552285367974819:=()
def tw6159815301854157874:=()
def tw3576970674265166048:=()
def tw9977937303014339746:=()
def tw5445594599855594580:=()
def tw189285833306261625:=()
def tw4710946369829118472:=()
def tw4711634680343866404:=()
def tw10626309369748186350:=()
def tw4193822183583484573:=()
def tw17391556096628251474:=()
def tw3701910340508021843:=()
def tw12362126165121540402:=()
def tw9000793798812096230:=()
def tw18297422731028609416:=()
def tw8228804133378235055:=()
def tw7240284459959590827:=()
def tw14659712780022910606:=()
def tw6326755288699362520:=()
def tw12048684736124563028:=()
def tw14973187363149467668:=()
def tw11865800661225242423:=()
def tw7686926214571197693:=()
def tw12665282356328612329:=()
def tw5512864084860859631:=()
def tw7723506144062844785:=()
def tw2730209607234879599:=()
def tw8241220855410186875:=()
def tw16752321156655274916:=()
def tw18283148381432347461:=()
def tw11966144297933559320:=()
def tw16622319364221069421:=()
def tw16499600479205884267:=()
def tw7411778421422983246:=()
def tw14839714593768760842:=()
def tw6539536142183927319:=()
def tw3543225264340131237:=()
def tw4939353518286962880:=()
def tw15316877652296383334:=()
def tw6642530211896479581:=()
def tw3307111952736634628:=()
def tw9520098989878128880:=()
def tw11357567732735316915:=()
def tw4143019224572807593:=()
def tw6849854135560891087:=()
def tw14186831194105775667:=()
def tw13628664871977387528:=()
def tw13957114102808985770:=()
def tw11623948783303421999:=()
def tw3940553652093570246:=()
def tw3058879934817581409:=()
def tw5273954860764217038:=()
def tw446797765975309810:=()
def tw9651771857542108063:=()
def tw973319060118230499:=()
def tw17411977352523236475:=()
def tw17916362486466432297:=()
def tw13120037950591578688:=()
def tw3005584497498529278:=()
def tw16468403036258141996:=()
def tw10259493772209149358:=()
def tw12579170609000982839:=()
def tw17548631761802280617:=()
def tw17134673081031167825:=()
def tw12155427185710978269:=()
def tw16135222416212976683:=()
def tw16473347970050213363:=()
def tw21242930858705211:=()
def tw7062788314084636490:=()
def tw760921580394508390:=()
def tw5762720673711548059:=()
def tw15309737380661025658:=()
def tw7559522375889475228:=()
def tw5876300398771261402:=()
def tw9627509024968047928:=()
def tw2971128953074197664:=()
def tw2594858799493951124:=()
def tw14579130612299106071:=()
def tw15461013267179003127:=()
def tw5471797964745062640:=()
def tw3696317680018226272:=()
def tw1462324073906604254:=()
def tw8499170560918293430:=()
def tw13529317103392509131:=()
def tw4322016932802952797:=()
def tw2741521365620582978:=()
def tw10129550609813060141:=()
def tw6776466636668790886:=()
def tw8839085999878735250:=()
def tw9095363074678475367:=()
def tw643228856734460819:=()
def tw6606460843681717391:=()
def tw12214235850906264049:=()
def tw12705144763696248126:=()
def tw9032584058544010209:=()
def tw12982351650071989972:=()
def tw11690873629321503191:=()
def tw9048472815061394872:=()
def tw11416396805618843907:=()
def tw9493225719530215787:=()
def tw6750480084025360209:=()
def tw9957745193903903641:=()
def tw15866912552379348324:=()
def tw10953957324553249337:=()
def tw14141748878347843137:=()
def tw9251380593839853792:=()
def tw6510484815568685143:=()
def tw16390954574111291795:=()
def tw12696844466405809085:=()
def tw11342710305691521297:=()
def tw9593587253104894002:=()
def tw13715742517469518536:=()
def tw5761204250423360663:=()
def tw2709755109147377660:=()
def tw10227832711676878249:=()
def tw16471850339271111854:=()
def tw17540770175430099522:=()
def tw16720739053477733743:=()
def tw4767309088236364250:=()
def tw1455121051968952018:=()
def tw2070078311309431120:=()
def tw8326417254388389585:=()
def tw6742298363634303619:=()
def tw15352501972525245962:=()
def tw7128390232573016534:=()
def tw12146803930170692912:=()
def tw8176682272224569589:=()
def tw12794966004753983740:=()
def tw12218104008020850593:=()
def tw1499890448733880481:=()
def tw4943268712001026392:=()
def tw5590476976822358731:=()
def tw1536963873342230943:=()
def tw17506593464015512811:=()
def tw9682884534644195231:=()
def tw13812857294143779251:=()
def tw10437123817093178643:=()
def tw16919706110851705102:=()
def tw17569436418409555286:=()
def tw99699078310514820:=()
def tw14215023936783107055:=()
def tw15792230291848019611:=()
def tw2103044038281635613:=()
def tw8556968326532163958:=()
def tw11491961065636259539:=()
def tw12822383722425078871:=()
def tw5882031759530526816:=()
def tw2122603124883968566:=()
def tw3899178309965961424:=()
def tw12693212688450131525:=()
def tw16076821216258644824:=()
def tw9623806925155116312:=()
def tw2079372719745654224:=()
def tw2922946051414613106:=()
def tw9200350912547413431:=()
def tw1386671424258850291:=()
def tw17997795054513418280:=()
def tw2650284286141353698:=()
def tw18385170880152754145:=()
def tw13621212126072553968:=()
def tw15820838357535946092:=()
def tw1533125733806128959:=()
def tw5987730138258284481:=()
def tw2302874960172759450:=()
def tw10322114364220773881:=()
def tw15228752257997730652:=()
def tw13181761900681235171:=()
def tw11531759180828631668:=()
def tw13217031381998763783:=()
def tw3639956411751054362:=()
def tw5668442205722743216:=()
def tw10286394069313473103:=()
def tw16561186251755762352:=()
def tw17004122173598901600:=()
def tw6707681901747233068:=()
def tw14359295795583346133:=()
def tw15226886389049899297:=()
def tw3161960327254235981:=()
def tw3029391063168060471:=()
def tw1853694158267455421:=()
def tw12034184674150636556:=()
def tw1524845435828237045:=()
def tw13794891430905021030:=()
def tw15936121300186590041:=()
def tw4591943021542352803:=()
def tw7084929850574352739:=()
def tw12631771702364798209:=()
def tw7631254334764199433:=()
def tw18090133440019534255:=()
def tw6075032542466404611:=()
def tw17875349031876067198:=()
def tw1853717865491069053:=()
def tw8904920143919438916:=()
def tw15757191138330961412:=()
def tw17121474257694633045:=()
def tw13773034506712487346:=()
def tw500308505096684517:=()
def tw17195993433350586587:=()
def tw13969867850133595390:=()
def tw9282879286560257958:=()
def tw5081535870668834475:=()
def tw16500322324989079754:=()
def tw18308839949213264326:=()
def tw8526739091519262583:=()
def tw13454516035423418908:=()
def tw11324675143735879692:=()
def tw8090482099490027356:=()
def tw3713236211680346579:=()
def tw15614984803946721960:=()
def tw17026000962898503977:=()
def tw12608502949901697709:=()
def tw4962872294905736814:=()
def tw13083185108621888688:=()
def tw13577745251224096164:=()
def tw12863818652465396230:=()
def tw17925793703742762759:=()
def tw1718348593378983669:=()
def tw5899291610518376595:=()
def tw14199025863839407568:=()
def tw12412692145963967206:=()
def tw7795117465781875233:=()
def tw7989761427945664732:=()
def tw6252191277337404206:=()
def tw305647852657354956:=()
def tw11516489899815265310:=()
def tw7234991437255190507:=()
def tw16031684918531390289:=()
def tw1193386089280673627:=()
def tw9137827165323475590:=()
def tw9522537789950762598:=()
def tw11649628744615962342:=()
def tw6722745178225734211:=()
def tw13527506077713594484:=()
def tw10054459256163272919:=()
def tw7598052475177005327:=()
def tw11540352716937209501:=()
def tw7048686513307241895:=()
def tw11498083403383572385:=()
def tw5840964022424550370:=()
def tw17248500639136268294:=()
def tw17723458341519839898:=()
def tw7179637524588563391:=()
def tw17595246335300400564:=()
def tw3909808731529309938:=()
def tw13662171034373607171:=()
def tw1991725784131479506:=()
def tw3740725171499720285:=()
def tw16565077999433376907:=()
def tw10070189967388464318:=()
def tw4640051722289600781:=()
def tw1457084726801641797:=()
def tw3119410664655023311:=()
def tw6964509851441018954:=()
def tw326980187678109902:=()
def tw11401978198438368266:=()
def tw491033465503910362:=()
def tw6936956804676863983:=()
def tw6519640032108594268:=()
def tw9936186079503112654:=()
def tw4151802003990582178:=()
def tw7153362936457328677:=()
def tw7709038573831243277:=()
def tw13736534377959163954:=()
def tw11454717865678256144:=()
def tw1086389974584409829:=()
def tw16870957614084716019:=()
def tw17571993204287172328:=()
def tw1272086587218407921:=()
def tw9427813474551975065:=()
def tw18049865135012253676:=()
def tw16068718567141671985:=()
def tw13580765857686271690:=()
def tw17890179784889319987:=()
def tw8127785528922741551:=()
def tw10074019424600305696:=()
def tw17049817690520064094:=()
def tw11193203219462324288:=()
def tw15013899525616955925:=()
def tw9904775867751751394:=()
def tw13673630708126835627:=()
def tw13443402322508651920:=()
def tw5076597983684010923:=()
def tw11409112838956707548:=()
def tw14608925050701443418:=()
def tw16479861046166003511:=()
def tw396655388563415798:=()
def tw3726968776326109037:=()
def tw17859676480066400608:=()
def tw16251935632867324654:=()
def tw7235048119847778507:=()
def tw13262450348701795189:=()
def tw8180317082313142582:=()
def tw7895922761847309276:=()
def tw16650344511518607281:=()
def tw11262359773288514034:=()
def tw8747945562780480335:=()
def tw12446430218121545302:=()
def tw4934503369320865554:=()
def tw12256833870387875898:=()
def tw2604928421824834547:=()
def tw4724001233688311491:=()
def tw1694392369369916750:=()
def tw10257729421188327366:=()
def tw7398475332883545296:=()
def tw1860375256402596678:=()
def tw5757859090346335145:=()
def tw6622482121478598572:=()
def tw16182385822057478310:=()
def tw1604788171689575328:=()
def tw10542541610419973059:=()
def tw7389342563712453308:=()
def tw6017745444658886401:=()
def tw227946211933733624:=()
def tw1283327414017053141:=()
def tw8259005034273207420:=()
def tw672410709375106570:=()
def tw13659057241935133674:=()
def tw4261517560736288172:=()
def tw10417403295413370439:=()
def tw15110364246462114408:=()
def tw7975115956581687334:=()
def tw16963855493873046762:=()
def tw4367064375199094128:=()
def tw6302785611084933400:=()
def tw14848464740957065343:=()
def tw11564015729449495691:=()
def tw5731846101905300817:=()
def tw12264689340197570929:=()
def tw968783706056859985:=()
def tw12255039036873235098:=()
def tw7394136995277634691:=()
def tw12518569674366773778:=()
def tw9759742502755219447:=()
def tw9266162917873332274:=()
def tw17951800685659430538:=()
def tw12096986520682330620:=()
def tw6425905654475126682:=()
def tw15108106125877919560:=()
def tw17786780756059746541:=()
def tw13259971728186836356:=()
def tw2864081598890662644:=()
def tw14027483743185880574:=()
def tw8567979287399386781:=()
def tw17270816409516997586:=()
def tw11856814415033142652:=()
def tw5884756172624949833:=()
def tw7480818560486116667:=()
def tw13654447010270911518:=()
def tw11863463529284330416:=()
def tw10697447758437716333:=()
def tw5522178529276511965:=()
def tw258563875360111350:=()
def tw17914220663773086232:=()
def tw5635466327652509980:=()
def tw14880393629246248977:=()
def tw3884531733327985698:=()
def tw4909100616270221235:=()
def tw2610340534308502908:=()
def tw12597761637431747743:=()
def tw7240051954788478074:=()
def tw3110680853788679208:=()
def tw8694892329266678628:=()
def tw15096783955052820370:=()
def tw8913392510526070717:=()
def tw823228994045387255:=()
def tw15572171414544147865:=()
def tw9342472613255109644:=()
def tw14895470387777993929:=()
def tw6204513975737839063:=()
def tw796170495721920835:=()
def tw10793841317238281025:=()
def tw843694347135285627:=()
def tw12565358470881832779:=()
def tw9563685863924165465:=()
def tw7034380351871690798:=()
def tw10719531372999171548:=()
def tw16269640734217960687:=()
def tw5205135559837725322:=()
def tw1401471515906658451:=()
def tw12997988434209738327:=()
def tw2663236898779924043:=()
def tw4424374651447586478:=()
def tw15453212382803054850:=()
def tw17562744265981987358:=()
def tw14464070226531001164:=()
def tw9455198270632908646:=()
def tw1146298029179757962:=()
def tw5837056821075618629:=()
def tw5672086224169016238:=()
end PySem.W.Fast
open PySem PySem.W PyProof.Rows
set_option maxRecDepth 100000 in
set_option maxHeartbeats 0 in
theorem PySem.Challenge.cw_waysum_k14_picked_ways_holds : PySem.Challenge.rw_waysum_k14_picked_ways.Holds := by
  w_on; o_law; k_head; (case hw => w_witness2)
  k_fill
  refine K14.walk (l := PySem.Challenge.rw_waysum_k14_picked_ways) rfl rfl ?him (fun w h Y => PySem.W.kIn_of Y) ?F
  case him => first | rfl | decide +kernel
  case F =>
    intro w mg fa h KX G hmg
    refine' K14.all_mk rfl KX G hmg ?g_SumError ?g_NoNet ?g_NoWorth ?g_NoPlace ?g_NoPick ?g_NoWay ?g_Net ?g_Kind ?g_Fewest ?g_Widest ?g_Counted ?g_Likeliest ?g_Chances ?g_Musts ?g_Rests ?g_MOST_PLACES ?g_MOST_ROADS ?g_WIDEST ?g_MOST_RESTS ?z_isinstance ?z_len ?z_int ?z_bool ?z_tuple ?z_list ?z_ValueError ?z_range ?z_min ?z_max ?z_enumerate ?xo_NoNet ?xa_NoNet ?xb_NoNet ?xc_NoNet ?xd_NoNet ?xe_NoNet ?xf_NoNet ?xm_NoNet_SumError ?kt_NoNet_NoWay ?kt_NoNet_ValueError ?xo_NoPick ?xa_NoPick ?xb_NoPick ?xc_NoPick ?xd_NoPick ?xe_NoPick ?xf_NoPick ?xm_NoPick_SumError ?kt_NoPick_NoWay ?kt_NoPick_ValueError ?xo_NoPlace ?xa_NoPlace ?xb_NoPlace ?xc_NoPlace ?xd_NoPlace ?xe_NoPlace ?xf_NoPlace ?xm_NoPlace_SumError ?kt_NoPlace_NoWay ?kt_NoPlace_ValueError ?xo_NoWay ?xa_NoWay ?xb_NoWay ?xc_NoWay ?xd_NoWay ?xe_NoWay ?xf_NoWay ?xm_NoWay_SumError ?kt_NoWay_ValueError ?xo_NoWorth ?xa_NoWorth ?xb_NoWorth ?xc_NoWorth ?xd_NoWorth ?xe_NoWorth ?xf_NoWorth ?xm_NoWorth_SumError ?kt_NoWorth_NoWay ?kt_NoWorth_ValueError ?mk_Net ?kp_Net ?na_Net_own_kind ?na_Net_how_many ?na_Net_own_roads ?pg_Net ?hd_Net ?po_Net ?sa_Net ?mk_Fewest ?in_Fewest ?kp_Fewest ?mk_Widest ?in_Widest ?kp_Widest ?mk_Counted ?in_Counted ?kp_Counted ?mk_Likeliest ?in_Likeliest ?kp_Likeliest ?mk_Chances ?in_Chances ?kp_Chances ?mk_Musts ?in_Musts ?kp_Musts ?mk_Rests ?kp_Rests ?na_Rests_m ?pg_Fewest ?hd_Fewest ?po_Fewest ?sa_Fewest ?pg_Widest ?hd_Widest ?po_Widest ?sa_Widest ?pg_Counted ?hd_Counted ?po_Counted ?sa_Counted ?pg_Likeliest ?hd_Likeliest ?po_Likeliest ?sa_Likeliest ?pg_Chances ?hd_Chances ?po_Chances ?sa_Chances ?pg_Musts ?hd_Musts ?po_Musts ?sa_Musts ?pg_Rests ?hd_Rests ?po_Rests ?sa_Rests ?a_Ddivisor ?l_Ddivisor ?c_Ddivisor_ ?k_Ddivisor ?a_MRests_init ?i_MRests_init ?l_MRests_init ?c_MRests_init_ ?k_MRests_init ?a_Dlaw_cell_at ?l_Dlaw_cell_at ?c_Dlaw_cell_at_ ?k_Dlaw_cell_at ?a_Dlaw_kind ?l_Dlaw_kind ?c_Dlaw_kind_ ?k_Dlaw_kind ?a_Dlaw_share ?l_Dlaw_share ?c_Dlaw_share_ ?k_Dlaw_share ?a_Dlaw_none ?l_Dlaw_none ?c_Dlaw_none_ ?k_Dlaw_none ?a_Dlaw_rest ?l_Dlaw_rest ?c_Dlaw_rest_ ?k_Dlaw_rest ?a_Dlaw_worth ?l_Dlaw_worth ?c_Dlaw_worth_ ?k_Dlaw_worth ?a_Dlowest ?l_Dlowest ?c_Dlowest_ ?k_Dlowest ?a_Dadded ?l_Dadded ?c_Dadded_ ?k_Dadded ?a_Dmultiplied ?l_Dmultiplied ?c_Dmultiplied_ ?k_Dmultiplied ?a_Dgreater ?l_Dgreater ?c_Dgreater_ ?k_Dgreater ?a_Dlacking_to_one ?l_Dlacking_to_one ?c_Dlacking_to_one_ ?k_Dlacking_to_one ?a_Draised ?l_Draised ?c_Draised_ ?k_Draised ?a_MFewest_none ?i_MFewest_none ?l_MFewest_none ?c_MFewest_none_ ?k_MFewest_none ?a_MWidest_none ?i_MWidest_none ?l_MWidest_none ?c_MWidest_none_ ?k_MWidest_none ?a_MCounted_none ?i_MCounted_none ?l_MCounted_none ?c_MCounted_none_ ?k_MCounted_none ?a_MLikeliest_none ?i_MLikeliest_none ?l_MLikeliest_none ?c_MLikeliest_none_ ?k_MLikeliest_none ?a_MChances_none ?i_MChances_none ?l_MChances_none ?c_MChances_none_ ?k_MChances_none ?a_MMusts_none ?i_MMusts_none ?l_MMusts_none ?c_MMusts_none_ ?k_MMusts_none ?a_MRests_none ?i_MRests_none ?l_MRests_none ?c_MRests_none_ ?k_MRests_none ?a_MFewest_rest ?i_MFewest_rest ?l_MFewest_rest ?c_MFewest_rest_ ?k_MFewest_rest ?a_MWidest_rest ?i_MWidest_rest ?l_MWidest_rest ?c_MWidest_rest_ ?k_MWidest_rest ?a_MCounted_rest ?i_MCounted_rest ?l_MCounted_rest ?c_MCounted_rest_ ?k_MCounted_rest ?a_MLikeliest_rest ?i_MLikeliest_rest ?l_MLikeliest_rest ?c_MLikeliest_rest_ ?k_MLikeliest_rest ?a_MChances_rest ?i_MChances_rest ?l_MChances_rest ?c_MChances_rest_ ?k_MChances_rest ?a_MMusts_rest ?i_MMusts_rest ?l_MMusts_rest ?c_MMusts_rest_ ?k_MMusts_rest ?a_MRests_rest ?i_MRests_rest ?l_MRests_rest ?c_MRests_rest_ ?k_MRests_rest ?a_MFewest_together ?i_MFewest_together ?l_MFewest_together ?c_MFewest_together_ ?k_MFewest_together ?a_MWidest_together ?i_MWidest_together ?l_MWidest_together ?c_MWidest_together_ ?k_MWidest_together ?a_MCounted_together ?i_MCounted_together ?l_MCounted_together ?c_MCounted_together_ ?k_MCounted_together ?a_MLikeliest_together ?i_MLikeliest_together ?l_MLikeliest_together ?c_MLikeliest_together_ ?k_MLikeliest_together ?a_MChances_together ?i_MChances_together ?l_MChances_together ?c_MChances_together_ ?k_MChances_together ?a_MMusts_together ?i_MMusts_together ?l_MMusts_together ?c_MMusts_together_ ?k_MMusts_together ?a_MRests_together ?i_MRests_together ?l_MRests_together ?c_MRests_together_ ?k_MRests_together ?a_MFewest_behind ?i_MFewest_behind ?l_MFewest_behind ?c_MFewest_behind_ ?k_MFewest_behind ?a_MWidest_behind ?i_MWidest_behind ?l_MWidest_behind ?c_MWidest_behind_ ?k_MWidest_behind ?a_MCounted_behind ?i_MCounted_behind ?l_MCounted_behind ?c_MCounted_behind_ ?k_MCounted_behind ?a_MLikeliest_behind ?i_MLikeliest_behind ?l_MLikeliest_behind ?c_MLikeliest_behind_ ?k_MLikeliest_behind ?a_MChances_behind ?i_MChances_behind ?l_MChances_behind ?c_MChances_behind_ ?k_MChances_behind ?a_MMusts_behind ?i_MMusts_behind ?l_MMusts_behind ?c_MMusts_behind_ ?k_MMusts_behind ?a_MRests_behind ?i_MRests_behind ?l_MRests_behind ?c_MRests_behind_ ?k_MRests_behind ?a_Dis_from ?l_Dis_from ?c_Dis_from_ ?k_Dis_from ?a_Dis_share ?l_Dis_share ?c_Dis_share_ ?k_Dis_share ?a_MFewest_is_worth ?i_MFewest_is_worth ?l_MFewest_is_worth ?c_MFewest_is_worth_ ?k_MFewest_is_worth ?a_MWidest_is_worth ?i_MWidest_is_worth ?l_MWidest_is_worth ?c_MWidest_is_worth_ ?k_MWidest_is_worth ?a_MCounted_is_worth ?i_MCounted_is_worth ?l_MCounted_is_worth ?c_MCounted_is_worth_ ?k_MCounted_is_worth ?a_MLikeliest_is_worth ?i_MLikeliest_is_worth ?l_MLikeliest_is_worth ?c_MLikeliest_is_worth_ ?k_MLikeliest_is_worth ?a_MChances_is_worth ?i_MChances_is_worth ?l_MChances_is_worth ?c_MChances_is_worth_ ?k_MChances_is_worth ?a_MMusts_is_worth ?i_MMusts_is_worth ?l_MMusts_is_worth ?c_MMusts_is_worth_ ?k_MMusts_is_worth ?a_MRests_is_worth ?i_MRests_is_worth ?l_MRests_is_worth ?c_MRests_is_worth_ ?k_MRests_is_worth ?a_Dcheck_numbers ?l_Dcheck_numbers ?c_Dcheck_numbers_ ?k_Dcheck_numbers ?a_Dcheck_ends ?l_Dcheck_ends ?c_Dcheck_ends_ ?k_Dcheck_ends ?a_MFewest_may_start_together ?i_MFewest_may_start_together ?l_MFewest_may_start_together ?c_MFewest_may_start_together_ ?k_MFewest_may_start_together ?a_MWidest_may_start_together ?i_MWidest_may_start_together ?l_MWidest_may_start_together ?c_MWidest_may_start_together_ ?k_MWidest_may_start_together ?a_MCounted_may_start_together ?i_MCounted_may_start_together ?l_MCounted_may_start_together ?c_MCounted_may_start_together_ ?k_MCounted_may_start_together ?a_MLikeliest_may_start_together ?i_MLikeliest_may_start_together ?l_MLikeliest_may_start_together ?c_MLikeliest_may_start_together_ ?k_MLikeliest_may_start_together ?a_MChances_may_start_together ?i_MChances_may_start_together ?l_MChances_may_start_together ?c_MChances_may_start_together_ ?k_MChances_may_start_together ?a_MMusts_may_start_together ?i_MMusts_may_start_together ?l_MMusts_may_start_together ?c_MMusts_may_start_together_ ?k_MMusts_may_start_together ?a_MRests_may_start_together ?i_MRests_may_start_together ?l_MRests_may_start_together ?c_MRests_may_start_together_ ?k_MRests_may_start_together ?a_Dcheck_starts ?l_Dcheck_starts ?c_Dcheck_starts_ ?k_Dcheck_starts ?a_Dcheck_worths ?l_Dcheck_worths ?c_Dcheck_worths_ ?k_Dcheck_worths ?a_MNet_init ?i_MNet_init ?l_MNet_init ?c_MNet_init_ ?k_MNet_init ?a_MNet_kind ?i_MNet_kind ?l_MNet_kind ?c_MNet_kind_ ?k_MNet_kind ?a_MNet_places ?i_MNet_places ?l_MNet_places ?c_MNet_places_ ?k_MNet_places ?a_MNet_roads ?i_MNet_roads ?l_MNet_roads ?c_MNet_roads_ ?k_MNet_roads ?a_Dlaw_tog ?l_Dlaw_tog ?c_Dlaw_tog_ ?k_Dlaw_tog ?a_Dlaw_beh ?l_Dlaw_beh ?c_Dlaw_beh_ ?k_Dlaw_beh ?a_Dlaw_whole ?l_Dlaw_whole ?c_Dlaw_whole_ ?k_Dlaw_whole ?a_Dlaw_thinned ?l_Dlaw_thinned ?c_Dlaw_thinned_ ?k_Dlaw_thinned ?a_Dlaw_net ?l_Dlaw_net ?c_Dlaw_net_ ?k_Dlaw_net ?a_Dcheck_place ?l_Dcheck_place ?c_Dcheck_place_ ?k_Dcheck_place ?a_Dlaw_steps ?l_Dlaw_steps ?c_Dlaw_steps_ ?k_Dlaw_steps ?a_Dbetters ?l_Dbetters ?c_Dbetters_ ?k_Dbetters ?a_Dbest_place ?l_Dbest_place ?c_Dbest_place_ ?k_Dbest_place ?a_Doffer ?l_Doffer ?c_Doffer_ ?k_Doffer ?a_Dbest_ways ?l_Dbest_ways ?c_Dbest_ways_ ?k_Dbest_ways ?a_MFewest_picks ?i_MFewest_picks ?l_MFewest_picks ?c_MFewest_picks_ ?k_MFewest_picks ?a_MWidest_picks ?i_MWidest_picks ?l_MWidest_picks ?c_MWidest_picks_ ?k_MWidest_picks ?a_MCounted_picks ?i_MCounted_picks ?l_MCounted_picks ?c_MCounted_picks_ ?k_MCounted_picks ?a_MLikeliest_picks ?i_MLikeliest_picks ?l_MLikeliest_picks ?c_MLikeliest_picks_ ?k_MLikeliest_picks ?a_MChances_picks ?i_MChances_picks ?l_MChances_picks ?c_MChances_picks_ ?k_MChances_picks ?a_MMusts_picks ?i_MMusts_picks ?l_MMusts_picks ?c_MMusts_picks_ ?k_MMusts_picks ?a_MRests_picks ?i_MRests_picks ?l_MRests_picks ?c_MRests_picks_ ?k_MRests_picks ?a_Dway_for ?l_Dway_for ?c_Dway_for_ ?k_Dway_for ?a_Dlaw_walked ?l_Dlaw_walked ?c_Dlaw_walked_ ?k_Dlaw_walked ?a_Dlaw_refused ?l_Dlaw_refused ?c_Dlaw_refused_ ?k_Dlaw_refused ?a_Dlaw ?l_Dlaw ?c_Dlaw_ ?k_Dlaw
    (case g_SumError => k_is)
    (case g_NoNet => k_is)
    (case g_NoWorth => k_is)
    (case g_NoPlace => k_is)
    (case g_NoPick => k_is)
    (case g_NoWay => k_is)
    (case g_Net => k_is)
    (case g_Kind => k_is)
    (case g_Fewest => k_is)
    (case g_Widest => k_is)
    (case g_Counted => k_is)
    (case g_Likeliest => k_is)
    (case g_Chances => k_is)
    (case g_Musts => k_is)
    (case g_Rests => k_is)
    (case g_MOST_PLACES => k_is)
    (case g_MOST_ROADS => k_is)
    (case g_WIDEST => k_is)
    (case g_MOST_RESTS => k_is)
    (case z_isinstance => k_is)
    (case z_len => k_is)
    (case z_int => k_is)
    (case z_bool => k_is)
    (case z_tuple => k_is)
    (case z_list => k_is)
    (case z_ValueError => k_is)
    (case z_range => k_is)
    (case z_min => k_is)
    (case z_max => k_is)
    (case z_enumerate => k_is)
    (case xo_NoNet => k_exc)
    (case xa_NoNet => kernel_rfl)
    (case xb_NoNet => k_is)
    (case xc_NoNet => k_is)
    (case xd_NoNet => k_is)
    (case xe_NoNet => k_is)
    (case xf_NoNet => k_is)
    (case xm_NoNet_SumError => kernel_rfl)
    (case kt_NoNet_NoWay => kernel_rfl)
    (case kt_NoNet_ValueError => kernel_rfl)
    (case xo_NoPick => k_exc)
    (case xa_NoPick => kernel_rfl)
    (case xb_NoPick => k_is)
    (case xc_NoPick => k_is)
    (case xd_NoPick => k_is)
    (case xe_NoPick => k_is)
    (case xf_NoPick => k_is)
    (case xm_NoPick_SumError => kernel_rfl)
    (case kt_NoPick_NoWay => kernel_rfl)
    (case kt_NoPick_ValueError => kernel_rfl)
    (case xo_NoPlace => k_exc)
    (case xa_NoPlace => kernel_rfl)
    (case xb_NoPlace => k_is)
    (case xc_NoPlace => k_is)
    (case xd_NoPlace => k_is)
    (case xe_NoPlace => k_is)
    (case xf_NoPlace => k_is)
    (case xm_NoPlace_SumError => kernel_rfl)
    (case kt_NoPlace_NoWay => kernel_rfl)
    (case kt_NoPlace_ValueError => kernel_rfl)
    (case xo_NoWay => k_exc)
    (case xa_NoWay => kernel_rfl)
    (case xb_NoWay => k_is)
    (case xc_NoWay => k_is)
    (case xd_NoWay => k_is)
    (case xe_NoWay => k_is)
    (case xf_NoWay => k_is)
    (case xm_NoWay_SumError => kernel_rfl)
    (case kt_NoWay_ValueError => kernel_rfl)
    (case xo_NoWorth => k_exc)
    (case xa_NoWorth => kernel_rfl)
    (case xb_NoWorth => k_is)
    (case xc_NoWorth => k_is)
    (case xd_NoWorth => k_is)
    (case xe_NoWorth => k_is)
    (case xf_NoWorth => k_is)
    (case xm_NoWorth_SumError => kernel_rfl)
    (case kt_NoWorth_NoWay => kernel_rfl)
    (case kt_NoWorth_ValueError => kernel_rfl)
    (case mk_Net => k_is)
    (case kp_Net => k_is)
    (case na_Net_own_kind => k_is)
    (case na_Net_how_many => k_is)
    (case na_Net_own_roads => k_is)
    (case pg_Net => k_is)
    (case hd_Net => k_is)
    (case po_Net => k_is)
    (case sa_Net => k_is)
    (case mk_Fewest => k_is)
    (case in_Fewest => k_is)
    (case kp_Fewest => k_is)
    (case mk_Widest => k_is)
    (case in_Widest => k_is)
    (case kp_Widest => k_is)
    (case mk_Counted => k_is)
    (case in_Counted => k_is)
    (case kp_Counted => k_is)
    (case mk_Likeliest => k_is)
    (case in_Likeliest => k_is)
    (case kp_Likeliest => k_is)
    (case mk_Chances => k_is)
    (case in_Chances => k_is)
    (case kp_Chances => k_is)
    (case mk_Musts => k_is)
    (case in_Musts => k_is)
    (case kp_Musts => k_is)
    (case mk_Rests => k_is)
    (case kp_Rests => k_is)
    (case na_Rests_m => k_is)
    (case pg_Fewest => k_is)
    (case hd_Fewest => k_is)
    (case po_Fewest => k_is)
    (case sa_Fewest => k_is)
    (case pg_Widest => k_is)
    (case hd_Widest => k_is)
    (case po_Widest => k_is)
    (case sa_Widest => k_is)
    (case pg_Counted => k_is)
    (case hd_Counted => k_is)
    (case po_Counted => k_is)
    (case sa_Counted => k_is)
    (case pg_Likeliest => k_is)
    (case hd_Likeliest => k_is)
    (case po_Likeliest => k_is)
    (case sa_Likeliest => k_is)
    (case pg_Chances => k_is)
    (case hd_Chances => k_is)
    (case po_Chances => k_is)
    (case sa_Chances => k_is)
    (case pg_Musts => k_is)
    (case hd_Musts => k_is)
    (case po_Musts => k_is)
    (case sa_Musts => k_is)
    (case pg_Rests => k_is)
    (case hd_Rests => k_is)
    (case po_Rests => k_is)
    (case sa_Rests => k_is)
    (case a_Ddivisor => k_is)
    (case l_Ddivisor => k_is)
    (case c_Ddivisor_ => k_is)
    (case k_Ddivisor => k_is)
    (case a_MRests_init => k_is)
    (case i_MRests_init => k_is)
    (case l_MRests_init => k_is)
    (case c_MRests_init_ => k_is)
    (case k_MRests_init => k_is)
    (case a_Dlaw_cell_at => k_is)
    (case l_Dlaw_cell_at => k_is)
    (case c_Dlaw_cell_at_ => k_is)
    (case k_Dlaw_cell_at => k_is)
    (case a_Dlaw_kind => k_is)
    (case l_Dlaw_kind => k_is)
    (case c_Dlaw_kind_ => k_is)
    (case k_Dlaw_kind => k_is)
    (case a_Dlaw_share => k_is)
    (case l_Dlaw_share => k_is)
    (case c_Dlaw_share_ => k_is)
    (case k_Dlaw_share => k_is)
    (case a_Dlaw_none => k_is)
    (case l_Dlaw_none => k_is)
    (case c_Dlaw_none_ => k_is)
    (case k_Dlaw_none => k_is)
    (case a_Dlaw_rest => k_is)
    (case l_Dlaw_rest => k_is)
    (case c_Dlaw_rest_ => k_is)
    (case k_Dlaw_rest => k_is)
    (case a_Dlaw_worth => k_is)
    (case l_Dlaw_worth => k_is)
    (case c_Dlaw_worth_ => k_is)
    (case k_Dlaw_worth => k_is)
    (case a_Dlowest => k_is)
    (case l_Dlowest => k_is)
    (case c_Dlowest_ => k_is)
    (case k_Dlowest => k_is)
    (case a_Dadded => k_is)
    (case l_Dadded => k_is)
    (case c_Dadded_ => k_is)
    (case k_Dadded => k_is)
    (case a_Dmultiplied => k_is)
    (case l_Dmultiplied => k_is)
    (case c_Dmultiplied_ => k_is)
    (case k_Dmultiplied => k_is)
    (case a_Dgreater => k_is)
    (case l_Dgreater => k_is)
    (case c_Dgreater_ => k_is)
    (case k_Dgreater => k_is)
    (case a_Dlacking_to_one => k_is)
    (case l_Dlacking_to_one => k_is)
    (case c_Dlacking_to_one_ => k_is)
    (case k_Dlacking_to_one => k_is)
    (case a_Draised => k_is)
    (case l_Draised => k_is)
    (case c_Draised_ => k_is)
    (case k_Draised => k_is)
    (case a_MFewest_none => k_is)
    (case i_MFewest_none => k_is)
    (case l_MFewest_none => k_is)
    (case c_MFewest_none_ => k_is)
    (case k_MFewest_none => k_is)
    (case a_MWidest_none => k_is)
    (case i_MWidest_none => k_is)
    (case l_MWidest_none => k_is)
    (case c_MWidest_none_ => k_is)
    (case k_MWidest_none => k_is)
    (case a_MCounted_none => k_is)
    (case i_MCounted_none => k_is)
    (case l_MCounted_none => k_is)
    (case c_MCounted_none_ => k_is)
    (case k_MCounted_none => k_is)
    (case a_MLikeliest_none => k_is)
    (case i_MLikeliest_none => k_is)
    (case l_MLikeliest_none => k_is)
    (case c_MLikeliest_none_ => k_is)
    (case k_MLikeliest_none => k_is)
    (case a_MChances_none => k_is)
    (case i_MChances_none => k_is)
    (case l_MChances_none => k_is)
    (case c_MChances_none_ => k_is)
    (case k_MChances_none => k_is)
    (case a_MMusts_none => k_is)
    (case i_MMusts_none => k_is)
    (case l_MMusts_none => k_is)
    (case c_MMusts_none_ => k_is)
    (case k_MMusts_none => k_is)
    (case a_MRests_none => k_is)
    (case i_MRests_none => k_is)
    (case l_MRests_none => k_is)
    (case c_MRests_none_ => k_is)
    (case k_MRests_none => k_is)
    (case a_MFewest_rest => k_is)
    (case i_MFewest_rest => k_is)
    (case l_MFewest_rest => k_is)
    (case c_MFewest_rest_ => k_is)
    (case k_MFewest_rest => k_is)
    (case a_MWidest_rest => k_is)
    (case i_MWidest_rest => k_is)
    (case l_MWidest_rest => k_is)
    (case c_MWidest_rest_ => k_is)
    (case k_MWidest_rest => k_is)
    (case a_MCounted_rest => k_is)
    (case i_MCounted_rest => k_is)
    (case l_MCounted_rest => k_is)
    (case c_MCounted_rest_ => k_is)
    (case k_MCounted_rest => k_is)
    (case a_MLikeliest_rest => k_is)
    (case i_MLikeliest_rest => k_is)
    (case l_MLikeliest_rest => k_is)
    (case c_MLikeliest_rest_ => k_is)
    (case k_MLikeliest_rest => k_is)
    (case a_MChances_rest => k_is)
    (case i_MChances_rest => k_is)
    (case l_MChances_rest => k_is)
    (case c_MChances_rest_ => k_is)
    (case k_MChances_rest => k_is)
    (case a_MMusts_rest => k_is)
    (case i_MMusts_rest => k_is)
    (case l_MMusts_rest => k_is)
    (case c_MMusts_rest_ => k_is)
    (case k_MMusts_rest => k_is)
    (case a_MRests_rest => k_is)
    (case i_MRests_rest => k_is)
    (case l_MRests_rest => k_is)
    (case c_MRests_rest_ => k_is)
    (case k_MRests_rest => k_is)
    (case a_MFewest_together => k_is)
    (case i_MFewest_together => k_is)
    (case l_MFewest_together => k_is)
    (case c_MFewest_together_ => k_is)
    (case k_MFewest_together => k_is)
    (case a_MWidest_together => k_is)
    (case i_MWidest_together => k_is)
    (case l_MWidest_together => k_is)
    (case c_MWidest_together_ => k_is)
    (case k_MWidest_together => k_is)
    (case a_MCounted_together => k_is)
    (case i_MCounted_together => k_is)
    (case l_MCounted_together => k_is)
    (case c_MCounted_together_ => k_is)
    (case k_MCounted_together => k_is)
    (case a_MLikeliest_together => k_is)
    (case i_MLikeliest_together => k_is)
    (case l_MLikeliest_together => k_is)
    (case c_MLikeliest_together_ => k_is)
    (case k_MLikeliest_together => k_is)
    (case a_MChances_together => k_is)
    (case i_MChances_together => k_is)
    (case l_MChances_together => k_is)
    (case c_MChances_together_ => k_is)
    (case k_MChances_together => k_is)
    (case a_MMusts_together => k_is)
    (case i_MMusts_together => k_is)
    (case l_MMusts_together => k_is)
    (case c_MMusts_together_ => k_is)
    (case k_MMusts_together => k_is)
    (case a_MRests_together => k_is)
    (case i_MRests_together => k_is)
    (case l_MRests_together => k_is)
    (case c_MRests_together_ => k_is)
    (case k_MRests_together => k_is)
    (case a_MFewest_behind => k_is)
    (case i_MFewest_behind => k_is)
    (case l_MFewest_behind => k_is)
    (case c_MFewest_behind_ => k_is)
    (case k_MFewest_behind => k_is)
    (case a_MWidest_behind => k_is)
    (case i_MWidest_behind => k_is)
    (case l_MWidest_behind => k_is)
    (case c_MWidest_behind_ => k_is)
    (case k_MWidest_behind => k_is)
    (case a_MCounted_behind => k_is)
    (case i_MCounted_behind => k_is)
    (case l_MCounted_behind => k_is)
    (case c_MCounted_behind_ => k_is)
    (case k_MCounted_behind => k_is)
    (case a_MLikeliest_behind => k_is)
    (case i_MLikeliest_behind => k_is)
    (case l_MLikeliest_behind => k_is)
    (case c_MLikeliest_behind_ => k_is)
    (case k_MLikeliest_behind => k_is)
    (case a_MChances_behind => k_is)
    (case i_MChances_behind => k_is)
    (case l_MChances_behind => k_is)
    (case c_MChances_behind_ => k_is)
    (case k_MChances_behind => k_is)
    (case a_MMusts_behind => k_is)
    (case i_MMusts_behind => k_is)
    (case l_MMusts_behind => k_is)
    (case c_MMusts_behind_ => k_is)
    (case k_MMusts_behind => k_is)
    (case a_MRests_behind => k_is)
    (case i_MRests_behind => k_is)
    (case l_MRests_behind => k_is)
    (case c_MRests_behind_ => k_is)
    (case k_MRests_behind => k_is)
    (case a_Dis_from => k_is)
    (case l_Dis_from => k_is)
    (case c_Dis_from_ => k_is)
    (case k_Dis_from => k_is)
    (case a_Dis_share => k_is)
    (case l_Dis_share => k_is)
    (case c_Dis_share_ => k_is)
    (case k_Dis_share => k_is)
    (case a_MFewest_is_worth => k_is)
    (case i_MFewest_is_worth => k_is)
    (case l_MFewest_is_worth => k_is)
    (case c_MFewest_is_worth_ => k_is)
    (case k_MFewest_is_worth => k_is)
    (case a_MWidest_is_worth => k_is)
    (case i_MWidest_is_worth => k_is)
    (case l_MWidest_is_worth => k_is)
    (case c_MWidest_is_worth_ => k_is)
    (case k_MWidest_is_worth => k_is)
    (case a_MCounted_is_worth => k_is)
    (case i_MCounted_is_worth => k_is)
    (case l_MCounted_is_worth => k_is)
    (case c_MCounted_is_worth_ => k_is)
    (case k_MCounted_is_worth => k_is)
    (case a_MLikeliest_is_worth => k_is)
    (case i_MLikeliest_is_worth => k_is)
    (case l_MLikeliest_is_worth => k_is)
    (case c_MLikeliest_is_worth_ => k_is)
    (case k_MLikeliest_is_worth => k_is)
    (case a_MChances_is_worth => k_is)
    (case i_MChances_is_worth => k_is)
    (case l_MChances_is_worth => k_is)
    (case c_MChances_is_worth_ => k_is)
    (case k_MChances_is_worth => k_is)
    (case a_MMusts_is_worth => k_is)
    (case i_MMusts_is_worth => k_is)
    (case l_MMusts_is_worth => k_is)
    (case c_MMusts_is_worth_ => k_is)
    (case k_MMusts_is_worth => k_is)
    (case a_MRests_is_worth => k_is)
    (case i_MRests_is_worth => k_is)
    (case l_MRests_is_worth => k_is)
    (case c_MRests_is_worth_ => k_is)
    (case k_MRests_is_worth => k_is)
    (case a_Dcheck_numbers => k_is)
    (case l_Dcheck_numbers => k_is)
    (case c_Dcheck_numbers_ => k_is)
    (case k_Dcheck_numbers => k_is)
    (case a_Dcheck_ends => k_is)
    (case l_Dcheck_ends => k_is)
    (case c_Dcheck_ends_ => k_is)
    (case k_Dcheck_ends => k_is)
    (case a_MFewest_may_start_together => k_is)
    (case i_MFewest_may_start_together => k_is)
    (case l_MFewest_may_start_together => k_is)
    (case c_MFewest_may_start_together_ => k_is)
    (case k_MFewest_may_start_together => k_is)
    (case a_MWidest_may_start_together => k_is)
    (case i_MWidest_may_start_together => k_is)
    (case l_MWidest_may_start_together => k_is)
    (case c_MWidest_may_start_together_ => k_is)
    (case k_MWidest_may_start_together => k_is)
    (case a_MCounted_may_start_together => k_is)
    (case i_MCounted_may_start_together => k_is)
    (case l_MCounted_may_start_together => k_is)
    (case c_MCounted_may_start_together_ => k_is)
    (case k_MCounted_may_start_together => k_is)
    (case a_MLikeliest_may_start_together => k_is)
    (case i_MLikeliest_may_start_together => k_is)
    (case l_MLikeliest_may_start_together => k_is)
    (case c_MLikeliest_may_start_together_ => k_is)
    (case k_MLikeliest_may_start_together => k_is)
    (case a_MChances_may_start_together => k_is)
    (case i_MChances_may_start_together => k_is)
    (case l_MChances_may_start_together => k_is)
    (case c_MChances_may_start_together_ => k_is)
    (case k_MChances_may_start_together => k_is)
    (case a_MMusts_may_start_together => k_is)
    (case i_MMusts_may_start_together => k_is)
    (case l_MMusts_may_start_together => k_is)
    (case c_MMusts_may_start_together_ => k_is)
    (case k_MMusts_may_start_together => k_is)
    (case a_MRests_may_start_together => k_is)
    (case i_MRests_may_start_together => k_is)
    (case l_MRests_may_start_together => k_is)
    (case c_MRests_may_start_together_ => k_is)
    (case k_MRests_may_start_together => k_is)
    (case a_Dcheck_starts => k_is)
    (case l_Dcheck_starts => k_is)
    (case c_Dcheck_starts_ => k_is)
    (case k_Dcheck_starts => k_is)
    (case a_Dcheck_worths => k_is)
    (case l_Dcheck_worths => k_is)
    (case c_Dcheck_worths_ => k_is)
    (case k_Dcheck_worths => k_is)
    (case a_MNet_init => k_is)
    (case i_MNet_init => k_is)
    (case l_MNet_init => k_is)
    (case c_MNet_init_ => k_is)
    (case k_MNet_init => k_is)
    (case a_MNet_kind => k_is)
    (case i_MNet_kind => k_is)
    (case l_MNet_kind => k_is)
    (case c_MNet_kind_ => k_is)
    (case k_MNet_kind => k_is)
    (case a_MNet_places => k_is)
    (case i_MNet_places => k_is)
    (case l_MNet_places => k_is)
    (case c_MNet_places_ => k_is)
    (case k_MNet_places => k_is)
    (case a_MNet_roads => k_is)
    (case i_MNet_roads => k_is)
    (case l_MNet_roads => k_is)
    (case c_MNet_roads_ => k_is)
    (case k_MNet_roads => k_is)
    (case a_Dlaw_tog => k_is)
    (case l_Dlaw_tog => k_is)
    (case c_Dlaw_tog_ => k_is)
    (case k_Dlaw_tog => k_is)
    (case a_Dlaw_beh => k_is)
    (case l_Dlaw_beh => k_is)
    (case c_Dlaw_beh_ => k_is)
    (case k_Dlaw_beh => k_is)
    (case a_Dlaw_whole => k_is)
    (case l_Dlaw_whole => k_is)
    (case c_Dlaw_whole_ => k_is)
    (case k_Dlaw_whole => k_is)
    (case a_Dlaw_thinned => k_is)
    (case l_Dlaw_thinned => k_is)
    (case c_Dlaw_thinned_ => k_is)
    (case k_Dlaw_thinned => k_is)
    (case a_Dlaw_net => k_is)
    (case l_Dlaw_net => k_is)
    (case c_Dlaw_net_ => k_is)
    (case k_Dlaw_net => k_is)
    (case a_Dcheck_place => k_is)
    (case l_Dcheck_place => k_is)
    (case c_Dcheck_place_ => k_is)
    (case k_Dcheck_place => k_is)
    (case a_Dlaw_steps => k_is)
    (case l_Dlaw_steps => k_is)
    (case c_Dlaw_steps_ => k_is)
    (case k_Dlaw_steps => k_is)
    (case a_Dbetters => k_is)
    (case l_Dbetters => k_is)
    (case c_Dbetters_ => k_is)
    (case k_Dbetters => k_is)
    (case a_Dbest_place => k_is)
    (case l_Dbest_place => k_is)
    (case c_Dbest_place_ => k_is)
    (case k_Dbest_place => k_is)
    (case a_Doffer => k_is)
    (case l_Doffer => k_is)
    (case c_Doffer_ => k_is)
    (case k_Doffer => k_is)
    (case a_Dbest_ways => k_is)
    (case l_Dbest_ways => k_is)
    (case c_Dbest_ways_ => k_is)
    (case k_Dbest_ways => k_is)
    (case a_MFewest_picks => k_is)
    (case i_MFewest_picks => k_is)
    (case l_MFewest_picks => k_is)
    (case c_MFewest_picks_ => k_is)
    (case k_MFewest_picks => k_is)
    (case a_MWidest_picks => k_is)
    (case i_MWidest_picks => k_is)
    (case l_MWidest_picks => k_is)
    (case c_MWidest_picks_ => k_is)
    (case k_MWidest_picks => k_is)
    (case a_MCounted_picks => k_is)
    (case i_MCounted_picks => k_is)
    (case l_MCounted_picks => k_is)
    (case c_MCounted_picks_ => k_is)
    (case k_MCounted_picks => k_is)
    (case a_MLikeliest_picks => k_is)
    (case i_MLikeliest_picks => k_is)
    (case l_MLikeliest_picks => k_is)
    (case c_MLikeliest_picks_ => k_is)
    (case k_MLikeliest_picks => k_is)
    (case a_MChances_picks => k_is)
    (case i_MChances_picks => k_is)
    (case l_MChances_picks => k_is)
    (case c_MChances_picks_ => k_is)
    (case k_MChances_picks => k_is)
    (case a_MMusts_picks => k_is)
    (case i_MMusts_picks => k_is)
    (case l_MMusts_picks => k_is)
    (case c_MMusts_picks_ => k_is)
    (case k_MMusts_picks => k_is)
    (case a_MRests_picks => k_is)
    (case i_MRests_picks => k_is)
    (case l_MRests_picks => k_is)
    (case c_MRests_picks_ => k_is)
    (case k_MRests_picks => k_is)
    (case a_Dway_for => k_is)
    (case l_Dway_for => k_is)
    (case c_Dway_for_ => k_is)
    (case k_Dway_for => k_is)
    (case a_Dlaw_walked => k_is)
    (case l_Dlaw_walked => k_is)
    (case c_Dlaw_walked_ => k_is)
    (case k_Dlaw_walked => k_is)
    (case a_Dlaw_refused => k_is)
    (case l_Dlaw_refused => k_is)
    (case c_Dlaw_refused_ => k_is)
    (case k_Dlaw_refused => k_is)
    (case a_Dlaw => k_is)
    (case l_Dlaw => k_is)
    (case c_Dlaw_ => k_is)
    (case k_Dlaw => k_is)
#print axioms PySem.Challenge.cw_waysum_k14_picked_ways_holds
