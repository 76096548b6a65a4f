import PyProof.Rows.All
import Wide.All
import OpenK.AllK
import Wide.FinOn
import Lean
import PyProof.EqAt
import PyProof.EqKinds
import PyProof.TupleCall
import PySem.Challenge.RW_waysum_k13_whole_a_place_taken_out
set_option linter.all false
set_option Elab.async false
set_option maxHeartbeats 4000000
set_option maxRecDepth 100000
set_option Elab.async false
set_option linter.all false
set_option maxRecDepth 100000
namespace L2
open PySem PySem.Spec PyProof.Rows
abbrev Key:=Sum Int Str
def keyIs:Key→Value→Bool
  | .inl k,v=>Value.isInt k v
  | .inr x,v=>Value.isStrOf x v
def keyH (w:World):Key→Int
  | .inl k=>hashInt k
  | .inr x=>hashStr w x
theorem keyIs_shape:∀ {k:Key} {v:Value},keyIs k v=true→(∃ i t,k=Sum.inl i∧v=Value.int i t)∨(∃ x t,k=Sum.inr x∧v=Value.str x t)
  | .inl i,v,h=>by
    obtain ⟨t,e⟩:=Value.isInt_shape (k:=i) (v:=v) h
    exact .inl ⟨i,t,rfl,e⟩
  | .inr x,v,h=>by
    obtain ⟨t,e⟩:=Value.isStrOf_shape (x:=x) (v:=v) h
    exact .inr ⟨x,t,rfl,e⟩
theorem key_ll (a b:Int):decide ((Sum.inl a:Key)=Sum.inl b)=(a == b):=by
  by_cases e:a=b
  · subst e; simp
  · have h:¬ (Sum.inl a:Key)=Sum.inl b:=fun q=>e (Sum.inl.inj q)
    rw [decide_eq_false h]
    exact (beq_eq_false_iff_ne.mpr e).symm
theorem key_rr (a b:Str):decide ((Sum.inr a:Key)=Sum.inr b)=decide (a=b):=by
  by_cases e:a=b
  · subst e; simp
  · have h:¬ (Sum.inr a:Key)=Sum.inr b:=fun q=>e (Sum.inr.inj q)
    rw [decide_eq_false h,decide_eq_false e]
theorem key_lr (a:Int) (b:Str):decide ((Sum.inl a:Key)=Sum.inr b)=false:=decide_eq_false (fun q=>nomatch q)
theorem key_rl (a:Str) (b:Int):decide ((Sum.inr a:Key)=Sum.inl b)=false:=decide_eq_false (fun q=>nomatch q)
def mixKind (prog:Program) (w:World):PySem.KeyKind prog w Key where
  is:=keyIs
  hash:=keyH w
  inj:=fun v a b ha hb=>by
    rcases keyIs_shape ha with ⟨i,t,rfl,rfl⟩ | ⟨x,t,rfl,rfl⟩
    · rcases keyIs_shape hb with ⟨j,u,rfl,e⟩ | ⟨y,u,rfl,e⟩
      · injection e with e1 _; rw [e1]
      · exact nomatch e
    · rcases keyIs_shape hb with ⟨j,u,rfl,e⟩ | ⟨y,u,rfl,e⟩
      · exact nomatch e
      · injection e with e1 _; rw [e1]
  byValue:=fun k v h=>by
    rcases keyIs_shape h with ⟨i,t,rfl,rfl⟩ | ⟨x,t,rfl,rfl⟩ <;> rfl
  pyHash:=fun hv h=>by
    rcases keyIs_shape hv with ⟨i,t,rfl,rfl⟩ | ⟨x,t,rfl,rfl⟩
    · exact wpAny_pyHash_int h
    · exact wpAny_pyHash_str h
  eqBool:=fun hu hv h=>by
    rcases keyIs_shape hu with ⟨i,t,rfl,rfl⟩ | ⟨x,t,rfl,rfl⟩
    · rcases keyIs_shape hv with ⟨j,u,rfl,rfl⟩ | ⟨y,u,rfl,rfl⟩
      · rw [key_ll] at h; exact wpAny_eqBool_int h
      · rw [key_lr] at h; exact SeqAt.EqAt.int_str i t y u _ _ _ _ h
    · rcases keyIs_shape hv with ⟨j,u,rfl,rfl⟩ | ⟨y,u,rfl,rfl⟩
      · rw [key_rl] at h; exact SeqAt.EqAt.str_int x t j u _ _ _ _ h
      · rw [key_rr] at h; exact wpAny_eqBool_str h
  «strs»:=fun k x t v h=>by
    rcases keyIs_shape h with ⟨i,u,rfl,e⟩ | ⟨y,u,rfl,e⟩
    · exact nomatch e
    · injection e with e1 _
      subst e1
      cases v <;> rfl
end L2
namespace L2
open PySem PySem.Spec PyProof.Rows
inductive V where
  | non | bl (b:Bool) | int (i:Int) | str (x:Str) | byt (b:Array UInt8) | flt (b:UInt64) | ref (a:Addr) | ty (n:String)
  deriving DecidableEq
def RelV:V→Value→Prop
  | .non,u=>u=Value.none
  | .bl b,u=>u=Value.bool b
  | .int i,u=>∃ t,u=Value.int i t
  | .str x,u=>∃ t,u=Value.str x t
  | .byt b,u=>∃ t,u=Value.bytes b t
  | .flt b,u=>∃ t,u=Value.float b t
  | .ref a,u=>u=Value.ref a
  | .ty n,u=>u=Value.type n
abbrev Vals:List V→List Value→Prop:=Paired RelV
theorem Vals.length {xs:List V} {us:List Value} (r:Vals xs us):xs.length=us.length:=Paired.length r
theorem Vals.get:∀ {xs:List V} {us:List Value} {i:Nat} {x:V},Vals xs us→xs[i]?=some x→∃ u,us[i]?=some u∧RelV x u
  | _,_,_,_,.nil,e=>by simp at e
  | _,_,0,_,.cons r _,e=>by simp at e; subst e; exact ⟨_,rfl,r⟩
  | _,_,i + 1,x,.cons _ t,e=>by
    obtain ⟨u,h1,h2⟩:=Vals.get (i:=i) (x:=x) t (by simpa using e)
    exact ⟨u,by simpa using h1,h2⟩
theorem Vals.set {x:V} {u:Value} (r:RelV x u):∀ {xs:List V} {us:List Value} (i:Nat),Vals xs us→Vals (xs.set i x) (us.set i u)
  | _,_,_,.nil=>.nil
  | _,_,0,.cons _ t=>.cons r t
  | _,_,i + 1,.cons q t=>.cons q (Vals.set r i t)
theorem Vals.append:∀ {xs ys:List V} {us ws:List Value},Vals xs us→Vals ys ws→Vals (xs ++ ys) (us ++ ws)
  | _,_,_,_,.nil,s=>s
  | _,_,_,_,.cons r t,s=>.cons r (Vals.append t s)
theorem Vals.take:∀ {xs:List V} {us:List Value} (n:Nat),Vals xs us→Vals (xs.take n) (us.take n)
  | _,_,0,_=>.nil
  | _,_,_ + 1,.nil=>.nil
  | _,_,n + 1,.cons r t=>.cons r (Vals.take n t)
theorem Vals.drop:∀ {xs:List V} {us:List Value} (n:Nat),Vals xs us→Vals (xs.drop n) (us.drop n)
  | _,_,0,r=>r
  | _,_,_ + 1,.nil=>.nil
  | _,_,n + 1,.cons _ t=>Vals.drop n t
def RelO:Option V→Option Value→Prop
  | some v,some u=>RelV v u
  | none,none=>True
  | _,_=>False
def KV {κ:Type}:List (κ × V)→List (κ × Value)→Prop:=Paired fun (p:κ × V) (q:κ × Value)=>p.1=q.1∧RelV p.2 q.2
def kV:Key→V
  | .inl i=>.int i
  | .inr x=>.str x
inductive HO where
  | lst (xs:List V)
  | tup (xs:List V)
  | dK (kvs:List (Key × V)) | dT (kvs:List (List Key × V))
  | set (S:Int→Bool) (n:Nat)
  | ins (C dx:Addr) (fs:List (Str × V))
  | own (x:Addr)
  | xd (fs:List (Str × V))
  | met (f x:Addr)
  | rng (lo hi:Int)
  | frz (o:Obj) (u:HO)
  | tbl (ps:Array Value)
  | ext (φ:Heap→Prop)
abbrev Hp:=Addr→Option HO
def upd (H:Hp) (a:Addr) (o:HO):Hp:=fun b=>if b=a then some o else H b
theorem upd_same {H:Hp} {a:Addr} {o:HO}:upd H a o a=some o:=by unfold upd; rw [if_pos rfl]
theorem upd_ne {H:Hp} {a b:Addr} {o:HO} (h:b≠a):upd H a o b=H b:=by unfold upd; rw [if_neg h]
theorem ne_of {H:Hp} {a b:Addr} {o u:HO} (h:H a=some o) (h':H b=some u) (d:o≠u):a≠b:=by
  intro e; subst e; rw [h] at h'; exact d (Option.some.inj h')
theorem ne_of_none {H:Hp} {a b:Addr} {o:HO} (h:H a=some o) (h':H b=none):a≠b:=by
  intro e; subst e; rw [h] at h'; cases h'
section
variable (P : Program) (w : World)
def ObjOk (H:Hp) (h:Heap) (a:Addr):HO→Prop
  | .lst xs=>xs.length≤sizeLine∧∃ (its:List Value) (n:Nat),Vals xs its∧h.get? a=some { cls:=.type "list",data:=.seq its.toArray n }
  | .tup xs=>xs.length≤sizeLine∧∃ its:List Value,Vals xs its∧IsTup h a its.toArray
  | .dK kvs=>kvs.length≤sizeLine∧(a == sysModules)=false∧∃ vs,KV kvs vs∧h.DictOf (mixKind P w) a vs
  | .dT kvs=>kvs.length≤sizeLine∧(a == sysModules)=false∧∃ xs:List (List Key × Addr × Value),
      Paired (fun (p:List Key × V) (q:List Key × Addr × Value)=>p.1=q.1∧H q.2.1=some (.tup (p.1.map kV))∧RelV p.2 q.2.2) kvs xs ∧
      ∃ o es ep,h.get? a=some o∧o.ExactDict∧o.data=.dict es ep∧es.toList=xs.map (entryOfKey (tupleKind (mixKind P w)))∧(xs.map (·.1)).Nodup
  | .set S n=>h.SetOf (intKind P w) a S n
  | .ins C dx fs=>H dx=some (.own a)∧fs.length≤1000∧dx≠a∧h.get? a=some (PySem.W.instObj C dx) ∧
      ∃ mA,h.Ns1 dx mA∧(∀ f,RelO (fs.lookup f) (mA f))∧PySem.Within mA (fs.map (·.1))
  | .own _=>∃ o,h.get? a=some o
  | .xd fs=>∃ mA,h.Ns1 a mA∧∀ f,RelO (fs.lookup f) (mA f)
  | .rng lo hi=>∃ t u v,h.get? a=some { cls:=.type "range",data:=.fields #[.int lo t,.int hi u,.int 1 v] }
  | .frz o u=>h.get? a=some o∧ObjOk H h a u
  | .tbl ps=>h.get? a=some { cls:=.none,data:=.fields ps }
  | .met f x=>h.get? a=some (PySem.W.methodObj (.ref f) (.ref x))
  | .ext φ=>φ h∧(∃ o,h.get? a=some o)∧∀ h1 h2:Heap,φ h1→(∀ o,h1.get? a=some o→h2.get? a=some o)→φ h2
def HOk (H:Hp) (h:Heap):Prop:=∀ a o,H a=some o→ObjOk P w H h a o
end
section
variable {P : Program} {w : World} {H H' : Hp} {h h' : Heap} {a : Addr} {o : HO}
theorem ObjOk.lt (x:ObjOk P w H h a o):a < h.objs.size:=by
  cases o with
  | lst xs=>obtain ⟨_,_,_,_,e⟩:=x; exact Heap.lt_size e
  | tup xs=>obtain ⟨_,_,_,p⟩:=x; exact p.lt
  | dK kvs=>obtain ⟨_,_,_,_,o,_,_,e,_⟩:=x; exact Heap.lt_size e
  | dT kvs=>obtain ⟨_,_,_,_,o,_,_,e,_⟩:=x; exact Heap.lt_size e
  | set S n=>obtain ⟨o,_,_,_,e,_⟩:=x; exact Heap.lt_size e
  | ins C dx fs=>obtain ⟨_,_,_,e,_⟩:=x; exact Heap.lt_size e
  | own y=>obtain ⟨_,e⟩:=x; exact Heap.lt_size e
  | xd fs=>obtain ⟨_,⟨_,_,_,e,_⟩,_⟩:=x; exact Heap.lt_size e
  | rng lo hi=>obtain ⟨_,_,_,e⟩:=x; exact Heap.lt_size e
  | frz ob u=>obtain ⟨e,_⟩:=x; exact Heap.lt_size e
  | tbl ps=>exact Heap.lt_size (show h.get? a=some _ from x)
  | met f y=>exact Heap.lt_size (show h.get? a=some _ from x)
  | ext φ=>obtain ⟨_,⟨_,e⟩,_⟩:=x; exact Heap.lt_size e
theorem Paired.mapP {α β:Type} {F G:α→β→Prop}:∀ {l₁:List α} {l₂:List β},Paired F l₁ l₂→(∀ a b,F a b→G a b)→Paired G l₁ l₂
  | _,_,.nil,_=>.nil
  | _,_,.cons r t,f=>.cons (f _ _ r) (Paired.mapP t f)
theorem ObjOk.stay (x:ObjOk P w H h a o) (k:∀ b u,(b=a∨H b=some (.own a))→h.get? b=some u→h'.get? b=some u)
    (ho:∀ b,H b=some (.own a)→H' b=some (.own a)) (ht:∀ b xs,H b=some (.tup xs)→H' b=some (.tup xs)):ObjOk P w H' h' a o:=by
  induction o with
  | lst xs=>obtain ⟨z,its,n,r,e⟩:=x; exact ⟨z,its,n,r,k _ _ (.inl rfl) e⟩
  | tup xs=>obtain ⟨z,its,r,ob,e,c⟩:=x; exact ⟨z,its,r,ob,k _ _ (.inl rfl) e,c⟩
  | dK kvs=>obtain ⟨z,y,vs,r,ob,es,ep,e,c⟩:=x; exact ⟨z,y,vs,r,ob,es,ep,k _ _ (.inl rfl) e,c⟩
  | dT kvs =>
    obtain ⟨z,y,xs,r,ob,es,ep,e,c⟩:=x
    exact ⟨z,y,xs,Paired.mapP r fun p q z=>⟨z.1,ht _ _ z.2.1,z.2.2⟩,ob,es,ep,k _ _ (.inl rfl) e,c⟩
  | set S n=>obtain ⟨ob,es,ep,t,e,c⟩:=x; exact ⟨ob,es,ep,t,k _ _ (.inl rfl) e,c⟩
  | ins C dx fs =>
    obtain ⟨d,z,ne,e,mA,⟨od,es,ep,e2,c⟩,r⟩:=x
    exact ⟨ho _ d,z,ne,k _ _ (.inl rfl) e,mA,⟨od,es,ep,k _ _ (.inr d) e2,c⟩,r⟩
  | own y=>obtain ⟨ob,e⟩:=x; exact ⟨ob,k _ _ (.inl rfl) e⟩
  | xd fs=>obtain ⟨mA,⟨od,es,ep,e,c⟩,r⟩:=x; exact ⟨mA,⟨od,es,ep,k _ _ (.inl rfl) e,c⟩,r⟩
  | rng lo hi=>obtain ⟨t,u,v,e⟩:=x; exact ⟨t,u,v,k _ _ (.inl rfl) e⟩
  | frz ob u ih=>obtain ⟨e,q⟩:=x; exact ⟨k _ _ (.inl rfl) e,ih q⟩
  | tbl ps =>
    have e:h.get? a=some { cls:=.none,data:=.fields ps }:=x
    show h'.get? a=some { cls:=.none,data:=.fields ps }
    exact k a _ (.inl rfl) e
  | met f y =>
    have e:h.get? a=some (PySem.W.methodObj (.ref f) (.ref y)):=x
    show h'.get? a=some (PySem.W.methodObj (.ref f) (.ref y))
    exact k a _ (.inl rfl) e
  | ext φ=>obtain ⟨p,⟨o,e⟩,st⟩:=x; exact ⟨st _ _ p fun o q=>k _ _ (.inl rfl) q,⟨o,k _ _ (.inl rfl) e⟩,st⟩
theorem HOk.lt (x:HOk P w H h) (e:H a=some o):a < h.objs.size:=(x a o e).lt
theorem HOk.fresh (x:HOk P w H h) (e:h.objs.size≤a):H a=none:=by
  cases q:H a with
  | none=>rfl
  | some u=>exact absurd (Nat.lt_of_lt_of_le (x.lt q) e) (Nat.lt_irrefl _)
theorem HOk.kept (x:HOk P w H h) (k:∀ b u,h.get? b=some u→h'.get? b=some u):HOk P w H h':=fun a o e =>
  (x a o e).stay (fun b u _ q=>k b u q) (fun _ q=>q) fun _ _ q=>q
theorem HOk.laid (x:HOk P w H h) (k:∀ b u,h.get? b=some u→h'.get? b=some u) (hp:h.objs.size≤a) (new:ObjOk P w (upd H a o) h' a o):HOk P w (upd H a o) h':=fun b u e=>by
  have hn:=x.fresh hp
  by_cases hb:b=a
  · subst hb; rw [upd_same] at e; cases e; exact new
  · rw [upd_ne hb] at e
    exact (x b u e).stay (fun c v _ q=>k c v q) (fun c q=>by rw [upd_ne (ne_of_none q hn)]; exact q) fun c xs q=>by rw [upd_ne (ne_of_none q hn)]; exact q
end
def Rd (H:Hp) (a:Addr) (u:HO):Prop:=H a=some u∨∃ o,H a=some (.frz o u)
theorem Rd.ok {P:Program} {w:World} {H:Hp} {h:Heap} {a:Addr} {u:HO} (r:Rd H a u) (x:HOk P w H h):ObjOk P w H h a u:=by
  rcases r with r | ⟨o,r⟩
  · exact x a u r
  · obtain ⟨_,q⟩:=x a _ r
    exact q
def Mut:Option HO→Prop
  | some (.lst _)=>True
  | some (.dK _)=>True
  | some (.dT _)=>True
  | some (.set _ _)=>True
  | some (.ins _ _ _)=>True
  | some (.ext _)=>True
  | _=>False
section
variable {P : Program} {w : World} {H : Hp} {h h' : Heap} {x e : Addr} {o' : HO}
theorem HOk.write (ok:HOk P w H h) (mu:Mut (H x)) (he:e=x∨H e=some (.own x)) (k:∀ b u,b≠e→h.get? b=some u→h'.get? b=some u) (heo:∃ u,h'.get? e=some u)
    (new:ObjOk P w (upd H x o') h' x o'):HOk P w (upd H x o') h':=fun b u q=>by
  have nown:∀ c y,H c=some (.own y)→c≠x:=fun c y r z=>by subst z; rw [r] at mu; exact mu
  have ntup:∀ c xs,H c=some (.tup xs)→c≠x:=fun c xs r z=>by subst z; rw [r] at mu; exact mu
  by_cases hb:b=x
  · subst hb; rw [upd_same] at q; cases q; exact new
  · rw [upd_ne hb] at q
    by_cases hbe:b=e
    · have q':H b=some (.own x):=by
        rcases he with z | z
        · exact absurd (hbe.trans z) hb
        · rw [hbe]; exact z
      rw [q] at q'; cases q'
      obtain ⟨v,hv⟩:=heo
      exact ⟨v,by rw [hbe]; exact hv⟩
    · refine (ok b u q).stay (fun c v hc r=>k c v ?_ r) (fun c r=>by rw [upd_ne (nown c b r)]; exact r) fun c xs r=>by rw [upd_ne (ntup c xs r)]; exact r
      rcases hc with rfl | hc
      · exact hbe
      · rintro rfl
        rcases he with z | z
        · exact nown c b hc z
        · rw [hc] at z; cases z; exact hb rfl
end
structure Un (fs ex:List Addr) (H H':Hp) (h h':Heap):Prop where
  keep:∀ b o,h.get? b=some o→H b=none→b ∉ fs→b ∉ ex→h'.get? b=some o
  slot:∀ b o,h.get? b=some o→H b=none→b∈fs→b ∉ ex→∃ sl,h'.get? b=some { o with slots:=sl }
  free:∀ b o,h.get? b=some o→H b=none→b ∉ ex→H' b=none
  there:∀ b o,h.get? b=some o→b ∉ ex→∃ o',h'.get? b=some o'
  tups:∀ b xs,H b=some (.tup xs)→H' b=some (.tup xs)
  frzs:∀ b o u,H b=some (.frz o u)→H' b=some (.frz o u)
  tbls:∀ b ps,H b=some (.tbl ps)→∃ more,H' b=some (.tbl (ps ++ more))
section
variable {fs fs' ex ex' : List Addr} {H H1 H2 : Hp} {h h1 h2 h' : Heap} {a x e : Addr} {o : HO}
theorem Un.any (u:Un fs ex H H1 h h1) {b:Addr} {ob:Obj} (q:h.get? b=some ob) (n:H b=none) (hx:b ∉ ex):∃ sl,h1.get? b=some { ob with slots:=sl }:=by
  by_cases hb:b∈fs
  · exact u.slot b ob q n hb hx
  · exact ⟨ob.slots,u.keep b ob q n hb hx⟩
theorem Un.kept (k:∀ b u,h.get? b=some u→h'.get? b=some u):Un fs ex H H h h' :=
  ⟨fun b ob q _ _ _=>k b ob q,fun b ob q _ _ _=>⟨ob.slots,k b ob q⟩,fun _ _ _ n _=>n,fun b ob q _=>⟨ob,k b ob q⟩,fun _ _ q=>q,fun _ _ _ q=>q,fun _ ps q=>⟨#[],by rw [q]; simp⟩⟩
theorem Un.refl:Un fs ex H H h h:=Un.kept fun _ _ q=>q
theorem Un.laid (k:∀ b u,h.get? b=some u→h'.get? b=some u) (hp:h.objs.size≤a) (hn:H a=none):Un fs ex H (upd H a o) h h' where
  keep:=fun b u q _ _ _=>k b u q
  slot:=fun b u q _ _ _=>⟨u.slots,k b u q⟩
  free:=fun b u q n _=>by rw [upd_ne (Nat.ne_of_lt (Nat.lt_of_lt_of_le (Heap.lt_size q) hp))]; exact n
  there:=fun b u q _=>⟨u,k b u q⟩
  tups:=fun b xs q=>by rw [upd_ne (ne_of_none q hn)]; exact q
  frzs:=fun b u xs q=>by rw [upd_ne (ne_of_none q hn)]; exact q
  tbls:=fun b ps q=>⟨#[],by rw [upd_ne (ne_of_none q hn),q]; simp⟩
theorem Un.write (mu:Mut (H x)) (he:e=x∨H e=some (.own x)) (k:∀ b u,b≠e→h.get? b=some u→h'.get? b=some u) (heo:∃ u,h'.get? e=some u):Un fs ex H (upd H x o) h h':=by
  have hx:∀ b,H b=none→b≠x:=fun b n z=>by subst z; rw [n] at mu; exact mu
  have hb:∀ b,H b=none→b≠e:=fun b n z=>by
    subst z
    rcases he with r | r
    · exact hx b n r
    · rw [n] at r; cases r
  have hm:∀ b u,H b=some u→¬ Mut (some u)→b≠x:=fun b u q nm z=>by subst z; rw [q] at mu; exact nm mu
  refine ⟨fun b u q n _ _=>k b u (hb b n) q,fun b u q n _ _=>⟨u.slots,k b u (hb b n) q⟩,fun b u q n _=>by rw [upd_ne (hx b n)]; exact n,fun b u q _=>?_,
    fun b xs q=>by rw [upd_ne (hm b _ q fun z=>z)]; exact q,fun b u xs q=>by rw [upd_ne (hm b _ q fun z=>z)]; exact q,fun b ps q=>⟨#[],by rw [upd_ne (hm b _ q fun z=>z),q]; simp⟩⟩
  by_cases hbe:b=e
  · subst hbe; exact heo
  · exact ⟨u,k b u hbe q⟩
end
def trk (h:Heap) (H:Hp):List Addr:=(List.range h.objs.size).filter fun a=>(H a).isSome
def hidT (h:Heap) (H:Hp):Heap:=PySem.W.hideAll h (trk h H)
theorem hidT_size (h:Heap) (H:Hp):(hidT h H).objs.size=h.objs.size:=PySem.W.hideAll_size _ _
theorem hidT_get {h:Heap} {H:Hp} {b:Addr} {o:Obj} (e:h.get? b=some o) (n:H b=none):(hidT h H).get? b=some o :=
  PySem.W.hideAll_get _ e fun hm=>by
    have q:(H b).isSome=true:=(List.mem_filter.mp hm).2
    rw [n] at q; simp at q
theorem of_hidT {h:Heap} {H:Hp} {b:Addr} {o:Obj} (e:(hidT h H).get? b=some o):h.get? b=some o∧H b=none:=by
  have e':h.get? b=some o:=PySem.W.of_hideAll (trk h H) e
  refine ⟨e',?_⟩
  cases q:H b with
  | none=>rfl
  | some x =>
    have hm:b∈trk h H:=List.mem_filter.mpr ⟨List.mem_range.mpr (Heap.lt_size e'),by simp [q]⟩
    have z:(hidT h H).get? b=none:=PySem.W.hideAll_none (trk h H) hm
    rw [z] at e; cases e
def allNews (g h:Heap) (L:Addr):List (Addr × Obj):=(List.range h.objs.size).filterMap fun a=>if a=L∨(g.get? a).isSome=true then none else (h.get? a).map fun o=>(a,o)
def rest (g h:Heap) (L d:Addr):List (Addr × Obj):=(allNews g h L).filter fun p=>decide (p.1≠d)
end L2
namespace L2
open PySem PySem.Spec PyProof.Rows
structure Mod (K:PySem.W.Frag) (mg:Str→Option Value) (base:Heap):Prop where
  kin:K.In base
  glob:base.Ns mainGlobals mg
  blt:∃ mb,base.Ns builtinsNs mb∧∀ x:Str,x≠"__name__"→mb x=bootBuiltins x
  nolimit:base.NoLimit
  seer:base.NoSeer
structure Cx where
  prog:Program
  w:World
  K:PySem.W.Frag
  mg:Str→Option Value
  base:Heap
  A:Around
  N:List Str
  s₀:Shared
  H₀:Hp
  env:Env
  outer:List Env
  stack:List Env
  ex:List Addr
  fn:Str→Bool
  calm:Bool
  pn:List (Addr × Obj)
  kn:Nat→Option V
  xe:Value→Shared→Prop
def frs (l:List Env):List Addr:=l.filterMap (·.frame)
abbrev Cx.fs (X:Cx):List Addr:=frs X.outer
def Vis (sc:Scope) (x:Str):Prop:=sc.names.lookup x=some .local∨sc.names.lookup x=some .cell∨sc.names.lookup x=some .free
def Loc (sc:Scope) (x:Str):Prop:=sc.names.lookup x=some .local∨sc.names.lookup x=some .cell
def Look (env:Env) (h:Heap) (m:Str→Option Value) (x:Str) (u:Value):Prop :=
  (env.kindOf x=some .local∧m x=some u)∨((env.kindOf x=some .cell∨env.kindOf x=some .free)∧∃ c,env.cells.lookup x=some c∧h.IsCell c (some u))
structure Cx.Ok (X:Cx):Prop where
  mod:Mod X.K X.mg X.base
  kind:X.env.scope.kind=.function
  glob:X.env.globals=mainGlobals
  blt:X.env.builtins=builtinsNs
  above:X.s₀.heap.objs.size≤X.env.locals
  inj:∀ x y c,X.env.cells.lookup x=some c→X.env.cells.lookup y=some c→x=y
  has:∀ x,(X.env.kindOf x=some .cell∨X.env.kindOf x=some .free)→∃ c,X.env.cells.lookup x=some c
  cab:∀ x c,X.fn x=true→X.env.cells.lookup x=some c→X.s₀.heap.objs.size≤c
  hd:X.calm=true→X.A.handled=none
  frames:X.A.frames=some X.stack
  stk:X.stack=X.outer∨(X.stack=X.env :: X.outer∧X.env.frame=some X.env.locals)
  exf:∀ b∈X.ex,b≠X.env.locals∧∀ x c,X.env.cells.lookup x=some c→c≠b
  bs:∀ b o,X.base.get? b=some o→X.s₀.heap.get? b=some o∧X.H₀ b=none
  bsz:X.base.objs.size≤X.s₀.heap.objs.size
  noex:∀ b o,X.base.get? b=some o→b ∉ X.ex
  exfs:∀ b∈X.ex,b ∉ X.fs
  funs:X.s₀.heap.FunFrames X.base X.outer
  frf:∀ b∈X.fs,X.H₀ b=none
structure Inv (X:Cx) (pins:List (Addr × Obj)) (σ:List (Option V)) (H:Hp) (s:Shared):Prop where
  ok:X.Ok
  os:s.os=X.s₀.os
  bare:AllBare s.gens
  base:Un X.fs X.ex X.H₀ H X.s₀.heap s.heap
  loc:∃ m,s.heap.Ns X.env.locals m∧∀ (i:Nat) (x:Str) (v:V),X.N[i]?=some x→σ[i]?=some (some v)→Vis X.env.scope x→∃ u,RelV v u∧Look X.env s.heap m x u
  cell:∀ x c,X.env.cells.lookup x=some c→∃ v,s.heap.IsCell c v
  free:H X.env.locals=none
  freeC:∀ x c,X.env.cells.lookup x=some c→H c=none
  pin:∀ p∈X.pn ++ pins,s.heap.get? p.1=some p.2∧H p.1=none∧p.1≠X.env.locals∧p.1 ∉ X.fs∧∀ v,p.2.data≠.cell v
  hok:HOk X.prog X.w H s.heap
  len:σ.length=X.N.length
  kno:∀ (i:Nat) (v:V),X.kn i=some v→σ[i]?=some (some v)
section
variable {X : Cx} {pins : List (Addr × Obj)} {σ : List (Option V)} {H H' : Hp} {s : Shared} {h' : Heap}
theorem Cx.Ok.nofr (ok:X.Ok) {b:Addr} {o:Obj} (e:X.base.get? b=some o):b ∉ X.fs:=fun hb=>by
  have:=(ok.funs.mem hb).1
  rw [e] at this; cases this
theorem Inv.bs (I:Inv X pins σ H s):∀ b o,X.base.get? b=some o→s.heap.get? b=some o∧H b=none:=fun b o e =>
  ⟨I.base.keep b o (I.ok.bs b o e).1 (I.ok.bs b o e).2 (I.ok.nofr e) (I.ok.noex b o e),I.base.free b o (I.ok.bs b o e).1 (I.ok.bs b o e).2 (I.ok.noex b o e)⟩
theorem Inv.bk (I:Inv X pins σ H s):∀ b o,X.base.get? b=some o→s.heap.get? b=some o:=fun b o e=>(I.bs b o e).1
theorem Inv.mod (I:Inv X pins σ H s):Mod X.K X.mg X.base:=I.ok.mod
theorem Inv.kIn (I:Inv X pins σ H s):X.K.In s.heap:=I.ok.mod.kin.keeps I.bk
theorem Inv.nolimit (I:Inv X pins σ H s):s.heap.NoLimit:=I.ok.mod.nolimit.keeps I.bk
theorem Inv.fr (I:Inv X pins σ H s):∃ m,Fr X.base X.env.locals s.heap m :=
  let ⟨m,hn,_⟩:=I.loc
  ⟨m,hn,I.bk,Nat.le_trans I.ok.bsz I.ok.above⟩
theorem Inv.lt (I:Inv X pins σ H s):X.env.locals < s.heap.objs.size:=let ⟨_,hn,_⟩:=I.loc; hn.lt
theorem Inv.sz (I:Inv X pins σ H s):X.s₀.heap.objs.size≤s.heap.objs.size:=Nat.le_trans I.ok.above (Nat.le_of_lt I.lt)
theorem Inv.nofs (I:Inv X pins σ H s) {a:Addr} (h:s.heap.objs.size≤a):a ∉ X.fs:=fun hb=>by
  obtain ⟨_,o,ho,_⟩:=I.ok.funs.mem hb
  exact absurd (Nat.lt_of_lt_of_le (Heap.lt_size ho) (Nat.le_trans I.sz h)) (Nat.lt_irrefl _)
theorem Inv.cne (I:Inv X pins σ H s):∀ x c,X.env.cells.lookup x=some c→c≠X.env.locals:=fun x c e z=>by
  obtain ⟨v,o,ho,hd⟩:=I.cell x c e
  obtain ⟨m,⟨o',es,ep,ho',hd',_⟩,_⟩:=I.loc
  rw [z,ho'] at ho; cases ho; rw [hd'] at hd; cases hd
theorem Inv.funs (I:Inv X pins σ H s):s.heap.FunFrames X.base X.outer:=by
  have all:∀ (l:List Env),(∀ b∈frs l,b∈X.fs)→X.s₀.heap.FunFrames X.base l→s.heap.FunFrames X.base l:=by
    intro l
    induction l with
    | nil=>intro _ _; trivial
    | cons env r ih =>
      intro hs hl
      obtain ⟨hk,⟨L,o,hf,hn,ho,hd⟩,hr⟩:=hl
      have hL:L∈X.fs:=hs L (by unfold frs; rw [List.filterMap_cons,hf]; exact List.mem_cons_self)
      obtain ⟨sl,e⟩:=I.base.slot L o ho (I.ok.frf L hL) hL fun z=>I.ok.exfs L z hL
      exact ⟨hk,⟨L,_,hf,hn,e,hd⟩,ih (fun b hb=>hs b (by unfold frs; rw [List.filterMap_cons,hf]; exact List.mem_cons_of_mem _ hb)) hr⟩
  exact all X.outer (fun _ hb=>hb) I.ok.funs
theorem Inv.stack (I:Inv X pins σ H s):s.heap.FunFrames X.base X.stack:=by
  rcases I.ok.stk with e | ⟨e,hf⟩
  · rw [e]; exact I.funs
  · rw [e]
    obtain ⟨m,hn,_⟩:=I.loc
    refine .cons (by rw [I.ok.kind]; decide) hf hn ?_ I.funs
    exact Heap.get?_none_of_le (Nat.le_trans I.ok.bsz I.ok.above)
theorem Inv.stkSub (I:Inv X pins σ H s):∀ b∈frs X.stack,b∈X.env.locals :: X.fs:=fun b hb=>by
  rcases I.ok.stk with e | ⟨e,hf⟩
  · rw [e] at hb; exact List.mem_cons_of_mem _ hb
  · rw [e] at hb
    unfold frs at hb
    rw [List.filterMap_cons,hf] at hb
    exact hb
theorem Inv.stkFree (I:Inv X pins σ H s):∀ b∈frs X.stack,H b=none:=fun b hb=>by
  rcases List.mem_cons.mp (I.stkSub b hb) with e | hb
  · rw [e]; exact I.free
  · obtain ⟨_,o,ho,_⟩:=I.ok.funs.mem hb
    exact I.base.free b o ho (I.ok.frf b hb) fun z=>I.ok.exfs b z hb
theorem Inv.step {g':Array GenState} {t':Nat} {d':Drawn} {ch:List Addr} (I:Inv X pins σ H s)
    (hch:∀ b∈ch,(b∈X.ex∨X.s₀.heap.objs.size≤b)∧b≠X.env.locals∧(∀ x c,X.env.cells.lookup x=some c→c≠b)∧∀ p∈X.pn ++ pins,p.1≠b)
    (keep:∀ b o,b≠X.env.locals→b ∉ X.fs→b ∉ ch→s.heap.get? b=some o→H b=none→h'.get? b=some o)
    (slot:∀ b o,b≠X.env.locals→b∈X.fs→b ∉ ch→s.heap.get? b=some o→H b=none→∃ sl,h'.get? b=some { o with slots:=sl }) (free:∀ b o,b ∉ ch→s.heap.get? b=some o→H b=none→H' b=none)
    (there:∀ b o,b ∉ ch→s.heap.get? b=some o→∃ o',h'.get? b=some o')
    (tups:∀ b xs,H b=some (.tup xs)→H' b=some (.tup xs)) (frzs:∀ b o u,H b=some (.frz o u)→H' b=some (.frz o u)) (tbls:∀ b ps,H b=some (.tbl ps)→∃ more,H' b=some (.tbl (ps ++ more)))
    (ns:∀ m,s.heap.Ns X.env.locals m→h'.Ns X.env.locals m) (hok:HOk X.prog X.w H' h') (hg:AllBare g') :
    Inv X pins σ H' { s with heap:=h',gens:=g',drawn:=d',toks:=t' }:=by
  have neL:∀ b o,X.s₀.heap.get? b=some o→b≠X.env.locals:=fun b o e=>Nat.ne_of_lt (Nat.lt_of_lt_of_le (Heap.lt_size e) I.ok.above)
  have neC:∀ b o,X.s₀.heap.get? b=some o→b ∉ X.ex→b ∉ ch:=fun b o e hx hb=>by
    rcases (hch b hb).1 with z | z
    · exact hx z
    · exact absurd (Nat.lt_of_lt_of_le (Heap.lt_size e) z) (Nat.lt_irrefl _)
  have cellK:∀ x c,X.env.cells.lookup x=some c→∀ v,s.heap.IsCell c v→h'.IsCell c v:=fun x c e v ⟨o,ho,hd⟩=>by
    have nch:c ∉ ch:=fun z=>(hch c z).2.2.1 x c e rfl
    by_cases hc:c∈X.fs
    · obtain ⟨sl,q⟩:=slot c o (I.cne x c e) hc nch ho (I.freeC x c e)
      exact ⟨_,q,hd⟩
    · exact ⟨o,keep c o (I.cne x c e) hc nch ho (I.freeC x c e),hd⟩
  refine ⟨I.ok,I.os,hg,⟨fun b o e n hb hx=>?_,fun b o e n hb hx=>?_,fun b o e n hx=>?_,fun b o e hx=>?_,fun b xs e=>tups b xs (I.base.tups b xs e),fun b o xs e=>frzs b o xs (I.base.frzs b o xs e),fun b ps e=>?_⟩,?_,fun x c e=>?_,?_,fun x c e=>?_,fun p hp=>?_,hok,I.len,I.kno⟩
  · exact keep b o (neL b o e) hb (neC b o e hx) (I.base.keep b o e n hb hx) (I.base.free b o e n hx)
  · obtain ⟨sl,e1⟩:=I.base.slot b o e n hb hx
    obtain ⟨sl',e2⟩:=slot b _ (neL b o e) hb (neC b o e hx) e1 (I.base.free b o e n hx)
    exact ⟨sl',e2⟩
  · obtain ⟨o',e1⟩:=I.base.there b o e hx
    exact free b o' (neC b o e hx) e1 (I.base.free b o e n hx)
  · obtain ⟨o',e1⟩:=I.base.there b o e hx
    exact there b o' (neC b o e hx) e1
  · obtain ⟨m1,e1⟩:=I.base.tbls b ps e
    obtain ⟨m2,e2⟩:=tbls b _ e1
    exact ⟨m1 ++ m2,by rw [e2,Array.append_assoc]⟩
  · obtain ⟨m,hn,hl⟩:=I.loc
    refine ⟨m,ns m hn,fun i x v e1 e2 e3=>?_⟩
    obtain ⟨u,r,l⟩:=hl i x v e1 e2 e3
    refine ⟨u,r,?_⟩
    rcases l with l | ⟨k,c,e,z⟩
    · exact .inl l
    · exact .inr ⟨k,c,e,cellK x c e _ z⟩
  · obtain ⟨v,z⟩:=I.cell x c e
    exact ⟨v,cellK x c e v z⟩
  · obtain ⟨m,⟨o,_,_,ho,_⟩,_⟩:=I.loc
    exact free _ o (fun z=>(hch _ z).2.1 rfl) ho I.free
  · obtain ⟨v,o,ho,hd⟩:=I.cell x c e
    exact free c o (fun z=>(hch c z).2.2.1 x c e rfl) ho (I.freeC x c e)
  · obtain ⟨e,n,ne,nf,d⟩:=I.pin p hp
    have nch:p.1 ∉ ch:=fun z=>(hch p.1 z).2.2.2 p hp rfl
    exact ⟨keep p.1 p.2 ne nf nch e n,free p.1 p.2 nch e n,ne,nf,d⟩
theorem Inv.un {t':Nat} (I:Inv X pins σ H s) (u:Un X.fs [] H H' s.heap h') (hok:HOk X.prog X.w H' h'):Inv X pins σ H' { s with heap:=h',toks:=t' }:=by
  obtain ⟨m,⟨o,es,ep,ho,r⟩,_⟩:=id I.loc
  obtain ⟨sl,hL⟩:=u.any ho I.free (by simp)
  exact I.step (g':=s.gens) (d':=s.drawn) (ch:=[]) (fun _ z=>nomatch z) (fun b o _ hb _ e n=>u.keep b o e n hb (by simp)) (fun b o _ hb _ e n=>u.slot b o e n hb (by simp)) (fun b o _ e n=>u.free b o e n (by simp)) (fun b o _ e=>u.there b o e (by simp)) u.tups u.frzs u.tbls (fun m' hm=>by
    obtain ⟨o',es',ep',ho',r'⟩:=hm
    rw [ho] at ho'; cases ho'
    exact ⟨_,es',ep',hL,r'⟩) hok I.bare
theorem Inv.call {g':Array GenState} {t':Nat} {d':Drawn} {ch:List Addr} (I:Inv X pins σ H s) (u:Un (frs X.stack) ch H H' s.heap h') (hok:HOk X.prog X.w H' h') (hg:AllBare g')
    (hch:∀ b∈ch,(b∈X.ex∨X.s₀.heap.objs.size≤b)∧b≠X.env.locals∧(∀ x c,X.env.cells.lookup x=some c→c≠b)∧∀ p∈X.pn ++ pins,p.1≠b) :
    Inv X pins σ H' { s with heap:=h',gens:=g',drawn:=d',toks:=t' }:=by
  obtain ⟨m,⟨o,es,ep,ho,r⟩,_⟩:=id I.loc
  obtain ⟨sl,hL⟩:=u.any ho I.free fun z=>(hch _ z).2.1 rfl
  exact I.step (ch:=ch) hch (fun b o hL hb hc e n=>u.keep b o e n (fun z=>(List.mem_cons.mp (I.stkSub b z)).elim hL hb) hc) (fun b o _ _ hc e n=>u.any e n hc) (fun b o hc e n=>u.free b o e n hc) (fun b o hc e=>u.there b o e hc) u.tups u.frzs u.tbls (fun m' hm=>by
    obtain ⟨o',es',ep',ho',r'⟩:=hm
    rw [ho] at ho'; cases ho'
    exact ⟨_,es',ep',hL,r'⟩) hok hg
theorem Inv.turned {t':Nat} {it:Addr} (I:Inv X pins σ H s) (k:∀ b o,b≠it→s.heap.get? b=some o→h'.get? b=some o) (hn:H it=none) (hL:it≠X.env.locals)
    (h1:it∈X.ex∨X.s₀.heap.objs.size≤it) (h2:∀ x c,X.env.cells.lookup x=some c→c≠it) (h3:∀ p∈X.pn ++ pins,p.1≠it):Inv X pins σ H { s with heap:=h',toks:=t' }:=by
  have nit:∀ b u,H b=some u→b≠it:=fun b u e z=>by rw [z,hn] at e; cases e
  refine I.step (g':=s.gens) (d':=s.drawn) (ch:=[it]) (fun b hb=>?_) (fun b o _ _ hc e _=>k b o (fun z=>hc (by simp [z])) e) (fun b o _ _ hc e _=>⟨o.slots,k b o (fun z=>hc (by simp [z])) e⟩) (fun _ _ _ _ n=>n)
    (fun b o hc e=>⟨o,k b o (fun z=>hc (by simp [z])) e⟩) (fun _ _ e=>e) (fun _ _ _ e=>e) (fun b ps e=>⟨#[],by rw [e]; simp⟩) (fun m hm=>?_) (fun b u e=>?_) I.bare
  · have e:b=it:=by simpa using hb
    subst e
    exact ⟨h1,hL,h2,h3⟩
  · obtain ⟨o,es,ep,ho,r⟩:=hm
    exact ⟨o,es,ep,k _ o (Ne.symm hL) ho,r⟩
  · refine (I.hok b u e).stay (fun c v hc q=>k c v ?_ q) (fun _ q=>q) fun _ _ q=>q
    rcases hc with z | z
    · rw [z]; exact nit b u e
    · exact nit c _ z
theorem Inv.tok (I:Inv X pins σ H s) (t:Nat):Inv X pins σ H { s with toks:=t }:=I.un (h':=s.heap) (t':=t) Un.refl I.hok
theorem Inv.kept {t':Nat} (I:Inv X pins σ H s) (k:∀ b u,s.heap.get? b=some u→h'.get? b=some u):Inv X pins σ H { s with heap:=h',toks:=t' }:=I.un (Un.kept k) (I.hok.kept k)
theorem Inv.laid {a:Addr} {o:HO} {t':Nat} (I:Inv X pins σ H s) (k:∀ b u,s.heap.get? b=some u→h'.get? b=some u) (hp:s.heap.objs.size≤a) (new:ObjOk X.prog X.w (upd H a o) h' a o) :
    Inv X pins σ (upd H a o) { s with heap:=h',toks:=t' }:=I.un (Un.laid k hp (I.hok.fresh hp)) (I.hok.laid k hp new)
theorem Inv.write {x e:Addr} {o:HO} {t':Nat} (I:Inv X pins σ H s) (mu:Mut (H x)) (he:e=x∨H e=some (.own x)) (k:∀ b u,b≠e→s.heap.get? b=some u→h'.get? b=some u) (heo:∃ u,h'.get? e=some u)
    (new:ObjOk X.prog X.w (upd H x o) h' x o):Inv X pins σ (upd H x o) { s with heap:=h',toks:=t' }:=I.un (Un.write mu he k heo) (I.hok.write mu he k heo new)
theorem Inv.weak {σ':List (Option V)} (I:Inv X pins σ H s) (hl:σ'.length=σ.length) (w:∀ (i:Nat) v,σ'[i]?=some (some v)→σ[i]?=some (some v)) (wk:∀ (i:Nat) v,X.kn i=some v→σ'[i]?=some (some v)):Inv X pins σ' H s :=
  ⟨I.ok,I.os,I.bare,I.base,let ⟨m,hn,hl'⟩:=I.loc; ⟨m,hn,fun i x v e1 e2 e3=>hl' i x v e1 (w i v e2) e3⟩,I.cell,I.free,I.freeC,I.pin,I.hok,hl.trans I.len,wk⟩
theorem Inv.pins_of {pins':List (Addr × Obj)} (I:Inv X pins σ H s) (h:∀ p∈pins',s.heap.get? p.1=some p.2∧H p.1=none∧p.1≠X.env.locals∧p.1 ∉ X.fs∧∀ v,p.2.data≠.cell v):Inv X pins' σ H s :=
  ⟨I.ok,I.os,I.bare,I.base,I.loc,I.cell,I.free,I.freeC,fun p hp=>(List.mem_append.mp hp).elim (fun z=>I.pin p (List.mem_append_left _ z)) (h p),I.hok,I.len,I.kno⟩
theorem nodup_ix {N:List Str} (hN:N.Nodup) {i j:Nat} {x:Str} (a:N[i]?=some x) (b:N[j]?=some x):i=j:=by
  obtain ⟨h1,e1⟩:=List.getElem?_eq_some_iff.mp a
  obtain ⟨h2,e2⟩:=List.getElem?_eq_some_iff.mp b
  exact (List.getElem_inj hN).mp (e1.trans e2.symm)
theorem store_ok2 {M:Model} {A:Around} {E:Value→Shared→Prop} {i:Nat} {x:Str} {v:V} {u:Value} {Q:Unit→Shared→Prop} (I:Inv X pins σ H s) (hN:X.N.Nodup) (hi:X.N[i]?=some x) (hx:Loc X.env.scope x) (r:RelV v u)
    (h:∀ s',Inv X pins (σ.set i (some v)) H s'→(∃ a,Heap.SameBut a s.heap s'.heap∧(a=X.env.locals∨X.env.cells.lookup x=some a))→Q () s') (hf:X.fn x=true∨X.env.scope.names.lookup x=some .local:=by first | exact .inl rfl | exact .inr rfl | assumption) (hkn:X.kn i=Option.none:=by rfl):wpAny M A (storeName X.env x u) Q E s:=by
  have kset:∀ (j:Nat) (v2:V),X.kn j=some v2→(σ.set i (some v))[j]?=some (some v2):=fun j v2 z=>by
    have hj:i≠j:=fun e=>by subst e; rw [hkn] at z; cases z
    rw [List.getElem?_set_ne hj]
    exact I.kno j v2 z
  obtain ⟨m,hn,hl⟩:=id I.loc
  have hcls:(X.env.scope.kind == .class || (X.env.scope.kind == .module && X.env.locals != X.env.globals))=false:=by rw [I.ok.kind]; rfl
  have hiσ:i < σ.length:=by rw [I.len]; exact (List.getElem?_eq_some_iff.mp hi).1
  have cne:=I.cne
  have tracked:∀ {a:Addr} {h':Heap},(∃ o,s.heap.get? a=some o∧H a=none)→Heap.SameBut a s.heap h'→HOk X.prog X.w H h':=fun {a h'} ha hs b ob e=>by
    obtain ⟨_,_,hfree⟩:=ha
    refine (I.hok b ob e).stay (fun c w' hc q=>(hs.2 c ?_).trans q) (fun _ q=>q) fun _ _ q=>q
    rintro rfl
    rcases hc with rfl | hc
    · rw [hfree] at e; cases e
    · rw [hfree] at hc; cases hc
  rcases hx with hk | hk
  · refine wpAny_storeName_local hk hn (fun h' hn' hs=>?_) hcls
    obtain ⟨oL,_,_,hoL,_⟩:=id hn
    refine h _ ⟨I.ok,I.os,I.bare,⟨fun b o e n hb hx=>?_,fun b o e n hb hx=>?_,I.base.free,fun b o e hx=>?_,I.base.tups,I.base.frzs,I.base.tbls⟩,⟨_,hn',fun j y v' e1 e2 e3=>?_⟩,fun y c e=>?_,I.free,I.freeC,fun p hp=>?_,tracked ⟨oL,hoL,I.free⟩ hs,by simpa using I.len,kset⟩ ⟨_,hs,.inl rfl⟩
    · exact (hs.2 b (Nat.ne_of_lt (Nat.lt_of_lt_of_le (Heap.lt_size e) I.ok.above))).trans (I.base.keep b o e n hb hx)
    · obtain ⟨sl,e1⟩:=I.base.slot b o e n hb hx
      exact ⟨sl,(hs.2 b (Nat.ne_of_lt (Nat.lt_of_lt_of_le (Heap.lt_size e) I.ok.above))).trans e1⟩
    · obtain ⟨o',e1⟩:=I.base.there b o e hx
      exact ⟨o',(hs.2 b (Nat.ne_of_lt (Nat.lt_of_lt_of_le (Heap.lt_size e) I.ok.above))).trans e1⟩
    · by_cases hj:j=i
      · subst hj
        rw [hi] at e1; cases e1
        rw [List.getElem?_set_self hiσ] at e2
        cases e2
        exact ⟨u,r,.inl ⟨hk,by simp⟩⟩
      · rw [List.getElem?_set_ne (Ne.symm hj)] at e2
        obtain ⟨u',r',q⟩:=hl j y v' e1 e2 e3
        refine ⟨u',r',?_⟩
        rcases q with ⟨k,e⟩ | ⟨k,c,e,z⟩
        · refine .inl ⟨k,?_⟩
          have:y≠x:=fun e=>hj (nodup_ix hN e1 (e ▸ hi))
          simp [this,e]
        · exact .inr ⟨k,c,e,z.sameBut hs (cne y c e)⟩
    · obtain ⟨w',z⟩:=I.cell y c e
      exact ⟨w',z.sameBut hs (cne y c e)⟩
    · obtain ⟨e,n,ne,nf,d⟩:=I.pin p hp
      exact ⟨(hs.2 p.1 ne).trans e,n,ne,nf,d⟩
  · have hfn:X.fn x=true:=by
      rcases hf with z | z
      · exact z
      · rw [z] at hk; cases hk
    obtain ⟨c,hc⟩:=I.ok.has x (.inl hk)
    obtain ⟨w',z⟩:=I.cell x c hc
    refine wpAny_storeName_cell I.ok.kind hk hc z (fun h' hc' hs=>?_)
    obtain ⟨oc,hoc,hocd⟩:=id z
    refine h { s with heap:=h' } ⟨I.ok,I.os,I.bare,⟨fun b o e n hb hx=>?_,fun b o e n hb hx=>?_,I.base.free,fun b o e hx=>?_,I.base.tups,I.base.frzs,I.base.tbls⟩,⟨m,hn.sameBut hs (Ne.symm (cne x c hc)),fun j y v' e1 e2 e3=>?_⟩,fun y c' e=>?_,I.free,I.freeC,fun p hp=>?_,tracked ⟨oc,hoc,I.freeC x c hc⟩ hs,by simpa using I.len,kset⟩ ⟨c,hs,.inr hc⟩
    · exact (hs.2 b (Nat.ne_of_lt (Nat.lt_of_lt_of_le (Heap.lt_size e) (I.ok.cab x c hfn hc)))).trans (I.base.keep b o e n hb hx)
    · obtain ⟨sl,e1⟩:=I.base.slot b o e n hb hx
      exact ⟨sl,(hs.2 b (Nat.ne_of_lt (Nat.lt_of_lt_of_le (Heap.lt_size e) (I.ok.cab x c hfn hc)))).trans e1⟩
    · obtain ⟨o',e1⟩:=I.base.there b o e hx
      exact ⟨o',(hs.2 b (Nat.ne_of_lt (Nat.lt_of_lt_of_le (Heap.lt_size e) (I.ok.cab x c hfn hc)))).trans e1⟩
    · by_cases hj:j=i
      · subst hj
        rw [hi] at e1; cases e1
        rw [List.getElem?_set_self hiσ] at e2
        cases e2
        exact ⟨u,r,.inr ⟨.inl hk,c,hc,hc'⟩⟩
      · rw [List.getElem?_set_ne (Ne.symm hj)] at e2
        obtain ⟨u',r',q⟩:=hl j y v' e1 e2 e3
        refine ⟨u',r',?_⟩
        rcases q with q | ⟨k,c',e,z'⟩
        · exact .inl q
        · refine .inr ⟨k,c',e,z'.sameBut hs ?_⟩
          rintro rfl
          exact hj (nodup_ix hN e1 (I.ok.inj _ _ _ e hc ▸ hi))
    · by_cases hcc:c'=c
      · subst hcc; exact ⟨_,hc'⟩
      · obtain ⟨w2,z2⟩:=I.cell y c' e
        exact ⟨w2,z2.sameBut hs hcc⟩
    · obtain ⟨e,n,ne,nf,d⟩:=I.pin p hp
      refine ⟨(hs.2 p.1 ?_).trans e,n,ne,nf,d⟩
      intro q
      rw [q,hoc] at e
      have q':oc=p.2:=Option.some.inj e
      exact d w' (by rw [← q']; exact hocd)
theorem store_ok {M:Model} {A:Around} {E:Value→Shared→Prop} {i:Nat} {x:Str} {v:V} {u:Value} {Q:Unit→Shared→Prop} (I:Inv X pins σ H s) (hN:X.N.Nodup) (hi:X.N[i]?=some x) (hx:Loc X.env.scope x) (r:RelV v u)
    (h:∀ s',Inv X pins (σ.set i (some v)) H s'→Q () s') (hf:X.fn x=true∨X.env.scope.names.lookup x=some .local:=by first | exact .inl rfl | exact .inr rfl | assumption) (hkn:X.kn i=Option.none:=by rfl):wpAny M A (storeName X.env x u) Q E s :=
  store_ok2 I hN hi hx r (fun s' I' _=>h s' I') hf hkn
theorem Inv.call' {s':Shared} {ch:List Addr} (I:Inv X pins σ H s) (ho:s'.os=s.os) (u:Un (frs X.stack) ch H H' s.heap s'.heap) (hok:HOk X.prog X.w H' s'.heap) (hg:AllBare s'.gens)
    (hch:∀ b∈ch,(b∈X.ex∨X.s₀.heap.objs.size≤b)∧b≠X.env.locals∧(∀ x c,X.env.cells.lookup x=some c→c≠b)∧∀ p∈X.pn ++ pins,p.1≠b):Inv X pins σ H' s':=by
  obtain ⟨h',g',d',t',o'⟩:=s'
  have e:o'=s.os:=ho
  subst e
  exact I.call (g':=g') (t':=t') (d':=d') u hok hg hch
end
abbrev XK:=Value→Option Addr→Hp→Prop
abbrev St:=List (Option V)
abbrev VK:=V→Hp→Prop
abbrev TE:=St→Hp→VK→Prop
abbrev TT:=St→Hp→(Bool→Hp→Prop)→Prop
abbrev TA:=St→Hp→(List V→Hp→Prop)→Prop
structure Ends where
  nx:St→Hp→Prop
  rt:VK
  bk:St→Hp→Prop:=fun _ _=>False
  ct:St→Hp→Prop:=fun _ _=>False
abbrev TS:=Ends→St→Hp→Prop
def EP (X:Cx) (pins:List (Addr × Obj)) (σ:St) (Q:VK) (u:Value) (s':Shared):Prop:=∃ v H',Inv X pins σ H' s'∧RelV v u∧Q v H'
def TP (X:Cx) (pins:List (Addr × Obj)) (σ:St) (Q:Bool→Hp→Prop) (b:Bool) (s':Shared):Prop:=∃ H',Inv X pins σ H' s'∧Q b H'
def AP (X:Cx) (pins:List (Addr × Obj)) (σ:St) (Q:List V→Hp→Prop) (us:List Value) (s':Shared):Prop:=∃ vs H',Inv X pins σ H' s'∧Vals vs us∧Q vs H'
def SP (X:Cx) (pins:List (Addr × Obj)) (D:Ends) (f:Flow) (s':Shared):Prop :=
  match f with
  | .next=>∃ σ' H',Inv X pins σ' H' s'∧D.nx σ' H'
  | .brk=>∃ σ' H',Inv X pins σ' H' s'∧D.bk σ' H'
  | .cont=>∃ σ' H',Inv X pins σ' H' s'∧D.ct σ' H'
  | .ret u=>∃ v σ' H',Inv X pins σ' H' s'∧RelV v u∧D.rt v H'
def PE (X:Cx) (e:Expr) (t:TE):Prop :=
  ∀ (pins:List (Addr × Obj)) (s:Shared) (σ:St) (H:Hp) (Q:VK),Inv X pins σ H s→t σ H Q→wpAny (model X.prog X.w) X.A (eval e X.env) (EP X pins σ Q) X.xe s
def PT (X:Cx) (e:Expr) (t:TT):Prop :=
  ∀ (pins:List (Addr × Obj)) (s:Shared) (σ:St) (H:Hp) (Q:Bool→Hp→Prop),Inv X pins σ H s→t σ H Q→wpAny (model X.prog X.w) X.A (isTrue e X.env (eval e X.env)) (TP X pins σ Q) X.xe s
def PW (X:Cx) (e:Expr) (t:TT):Prop :=
  ∀ (whole:Sem Value) (pins:List (Addr × Obj)) (s:Shared) (σ:St) (H:Hp) (Q:Bool→Hp→Prop),Inv X pins σ H s→t σ H Q→wpAny (model X.prog X.w) X.A (isTrue e X.env whole) (TP X pins σ Q) X.xe s
theorem PW.pt {X:Cx} {e:Expr} {t:TT} (h:PW X e t):PT X e t:=h _
def PA (X:Cx) (es:List Expr) (t:TA):Prop :=
  ∀ (pos:Pos) (pins:List (Addr × Obj)) (s:Shared) (σ:St) (H:Hp) (Q:List V→Hp→Prop),Inv X pins σ H s→t σ H Q→wpAny (model X.prog X.w) X.A (spliced (backTo pos (starEach es X.env))) (AP X pins σ Q) X.xe s
def PS (X:Cx) (st:Stmt) (t:TS):Prop :=
  ∀ (pins:List (Addr × Obj)) (s:Shared) (σ:St) (H:Hp) (D:Ends),Inv X pins σ H s→t D σ H→wpAny (model X.prog X.w) X.A (exec st X.env) (SP X pins D) X.xe s
def PSs (X:Cx) (st:List Stmt) (t:TS):Prop :=
  ∀ (pins:List (Addr × Obj)) (s:Shared) (σ:St) (H:Hp) (D:Ends),Inv X pins σ H s→t D σ H→wpAny (model X.prog X.w) X.A (execs st X.env) (SP X pins D) X.xe s
theorem thn {α:Type} {t:Sem α} {Q Q':α→Shared→Prop} {M:Model} {A:Around} {E:Value→Shared→Prop} {s:Shared} (h:wpAny M A t Q E s) (hQ:∀ a s,Q a s→Q' a s):wpAny M A t Q' E s:=wpAny_mono h hQ fun _ _ x=>x
end L2
namespace L2
open PySem PySem.Spec PyProof.Rows
section
variable {X : Cx}
def tVar (i:Nat):TE:=fun σ H Q=>∃ v,σ[i]?=some (some v)∧Q v H
def tC (v:V):TE:=fun _ H Q=>Q v H
theorem pe_var {i:Nat} {x:Str} {pos:Pos} (hN:X.N[i]?=some x) (hv:Vis X.env.scope x) (hd:(x == ("__debug__":Str))=false:=by decide) (hcd:(x == ("__classdict__":Str))=false:=by decide):PE X (.Name x pos) (tVar i):=by
  intro pins s σ H Q I h
  obtain ⟨v,e,h⟩:=h
  obtain ⟨m,hn,hl⟩:=I.loc
  obtain ⟨u,r,l⟩:=hl i x v hN e hv
  have fin:EP X pins σ Q u s:=⟨v,H,I,r,h⟩
  rcases l with ⟨hk,hm⟩ | ⟨hk,c,hc,hcell⟩
  · exact wpAny_Name (wpAny_loadName_local I.ok.kind hk hn hm fin) hd
  · rcases hk with hk | hk
    · exact wpAny_Name (wpAny_loadName_cell I.ok.kind hk hc hcell fin) hd
    · exact wpAny_Name (wpAny_loadName_free I.ok.kind hk hc hcell fin hcd) hd
theorem pe_int {i j pos}:PE X (.Constant (.int i) j pos) (tC (.int i)):=fun _ _ _ H _ I h=>wpAny_Constant_int ⟨.int i,H,I.tok _,⟨_,rfl⟩,h⟩
theorem pe_bl {b j pos}:PE X (.Constant (.bool b) j pos) (tC (.bl b)):=fun _ _ _ H _ I h=>Constant_bool ⟨.bl b,H,I,rfl,h⟩
theorem pe_non {j pos}:PE X (.Constant .none j pos) (tC .non):=fun _ _ _ H _ I h=>Constant_none ⟨.non,H,I,rfl,h⟩
theorem pe_str {x j pos}:PE X (.Constant (.str x) j pos) (tC (.str x)):=fun _ _ _ H _ I h=>Calls.Constant_str ⟨.str x,H,I.tok _,⟨_,rfl⟩,h⟩
def Gl (X:Cx) (x:Str):Prop:=X.env.kindOf x=some .globalImplicit
theorem ld_glob {E:Value→Shared→Prop} {pins:List (Addr × Obj)} {s:Shared} {σ:St} {H:Hp} {x:Str} {u:Value} {pos:Pos} {Q:Value→Shared→Prop} (I:Inv X pins σ H s) (hg:Gl X x) (hm:X.mg x=some u) (h:Q u s)
    (hd:(x == ("__debug__":Str))=false:=by decide):wpAny (model X.prog X.w) X.A (eval (.Name x pos) X.env) Q E s :=
  Calls.Name_function_global I.ok.kind hg (Calls.loadGlobal_global (by rw [I.ok.glob]; exact I.mod.glob.keeps I.bk) hm h) hd
theorem ld_blt {E:Value→Shared→Prop} {pins:List (Addr × Obj)} {s:Shared} {σ:St} {H:Hp} {x:Str} {u:Value} {pos:Pos} {Q:Value→Shared→Prop} (I:Inv X pins σ H s) (hg:Gl X x) (hm:X.mg x=none) (hv:bootBuiltins x=some u) (h:Q u s)
    (hn:x≠"__name__":=by decide) (hd:(x == ("__debug__":Str))=false:=by decide):wpAny (model X.prog X.w) X.A (eval (.Name x pos) X.env) Q E s:=by
  obtain ⟨mb,h1,h2⟩:=I.mod.blt
  exact Calls.Name_function_global I.ok.kind hg (Calls.loadGlobal_builtin (by rw [I.ok.glob]; exact I.mod.glob.keeps I.bk) hm (by rw [I.ok.blt]; exact h1.keeps I.bk) ((h2 x hn).trans hv) h) hd
theorem pe_glob {x:Str} {v:V} {u:Value} {pos:Pos} (hg:Gl X x) (hm:X.mg x=some u) (r:RelV v u) (hd:(x == ("__debug__":Str))=false:=by decide):PE X (.Name x pos) (tC v) :=
  fun _ _ _ H _ I h=>ld_glob I hg hm ⟨v,H,I,r,h⟩ hd
theorem pe_bltn {x:Str} {v:V} {u:Value} {pos:Pos} (hg:Gl X x) (hm:X.mg x=none) (hv:bootBuiltins x=some u) (r:RelV v u) (hn:x≠"__name__":=by decide) (hd:(x == ("__debug__":Str))=false:=by decide):PE X (.Name x pos) (tC v) :=
  fun _ _ _ H _ I h=>ld_blt I hg hm hv ⟨v,H,I,r,h⟩ hn hd
def t2I (ta tb:TE) (k:Int→Int→Hp→Prop):St→Hp→Prop:=fun σ H=>ta σ H fun x H1=>tb σ H1 fun y H2=>∃ i j,x=.int i∧y=.int j∧k i j H2
variable {a b : Expr} {ta tb : TE} {pos : Pos}
def PC (X:Cx) (op:CmpOp) (a b:Expr) (t:TE):Prop :=
  ∀ (pins:List (Addr × Obj)) (s:Shared) (σ:St) (H:Hp) (Q:VK),Inv X pins σ H s→t σ H Q →
    wpAny (model X.prog X.w) X.A (eval a X.env) (fun v s₁=>wpAny (model X.prog X.w) X.A (eval b X.env) (fun u s₂=>wpAny (model X.prog X.w) X.A (compareOp op v u) (EP X pins σ Q) X.xe s₂) X.xe s₁) X.xe s
theorem nobehind (b:Expr) {op:CmpOp} (h:op≠.In) (h2:op≠.NotIn):behindInMarks op b=false:=by
  have e1:(op == CmpOp.In)=false:=by cases op <;> first | rfl | exact absurd rfl h
  have e2:(op == CmpOp.NotIn)=false:=by cases op <;> first | rfl | exact absurd rfl h2
  cases b <;> simp [behindInMarks,e1,e2]
def tCmp (p:Int→Int→Bool) (ta tb:TE):TE:=fun σ H Q=>t2I ta tb (fun i j H2=>Q (.bl (p i j)) H2) σ H
abbrev tLt:TE→TE→TE:=tCmp fun i j=>decide (i < j)
abbrev tLe:TE→TE→TE:=tCmp fun i j=>decide (i≤j)
abbrev tGt:TE→TE→TE:=tCmp fun i j=>decide (j < i)
abbrev tGe:TE→TE→TE:=tCmp fun i j=>decide (j≤i)
abbrev tEqI:TE→TE→TE:=tCmp fun i j=>decide (i=j)
abbrev tNeI:TE→TE→TE:=tCmp fun i j=>!decide (i=j)
def tIsN (ta:TE):TE:=fun σ H Q=>ta σ H fun x H1=>Q (.bl (decide (x=.non))) H1
theorem RelV.none_iff {x:V} {v:Value} (r:RelV x v):(v == Value.none)=decide (x=.non):=by
  cases x with
  | non=>cases r; rfl
  | bl _=>cases r; rfl
  | int _=>obtain ⟨t,rfl⟩:=r; rfl
  | str _=>obtain ⟨t,rfl⟩:=r; rfl
  | byt _=>obtain ⟨t,rfl⟩:=r; rfl
  | flt _=>obtain ⟨t,rfl⟩:=r; rfl
  | ref _=>cases r; rfl
  | ty _=>cases r; rfl
theorem pc_isN {j pos'} (ha:PE X a ta):PC X .Is a (.Constant .none j pos') (tIsN ta):=by
  intro pins s σ H Q I h
  refine thn (ha pins s σ H _ I h) fun v s1 ⟨x,H1,I1,r1,q1⟩=>?_
  exact Constant_none (is_none_gen ⟨.bl _,H1,I1,by rw [r1.none_iff]; rfl,q1⟩)
def tB (t:TE):TT:=fun σ H Q=>t σ H fun x H1=>∃ c,x=.bl c∧Q c H1
theorem pe_cmp {op:CmpOp} {t:TE} (h:PC X op a b t) (h1:behindInMarks op b=false:=by first | exact nobehind _ (by decide) (by decide) | rfl):PE X (.Compare a [op] [b] pos) t:=fun pins s σ H Q I hw=>wpAny_Compare1 (h pins s σ H Q I hw) h1
theorem pt_cmp {op:CmpOp} {t:TE} (h:PC X op a b t) (h1:behindInMarks op b=false:=by first | exact nobehind _ (by decide) (by decide) | rfl):PT X (.Compare a [op] [b] pos) (tB t):=by
  intro pins s σ H Q I hw
  refine wpAny_isTrue_Compare1 (thn (h pins s σ H _ I hw) fun v s1 h1=>thn h1 fun u s2 h2=>thn h2 fun c s3 ⟨x,H1,I1,r1,q1⟩=>?_) h1
  obtain ⟨d,rfl,q⟩:=q1
  cases r1
  exact wpAny_truthy_bool ⟨H1,I1,q⟩
theorem pt_val {e:Expr} {t:TE} (h:PE X e t) (he:∀ whole,isTrue e X.env whole=(do let v ← whole; standAt e.pos; holding [v] (truthy v)):=by intro _; rfl):PT X e (tB t):=by
  intro pins s σ H Q I hw
  refine isTrue_plain (thn (h pins s σ H _ I hw) fun v s1 ⟨x,H1,I1,r1,q1⟩=>?_) (he _)
  obtain ⟨d,rfl,q⟩:=q1
  cases r1
  exact wpAny_truthy_bool ⟨H1,I1,q⟩
variable {tA tB' : TT} {rest : List Expr}
def tAnd (t u:TT):TT:=fun σ H Q=>t σ H fun c H1=>if c=true then u σ H1 Q else Q false H1
def tOr (t u:TT):TT:=fun σ H Q=>t σ H fun c H1=>if c=true then Q true H1 else u σ H1 Q
def tNot (t:TT):TT:=fun σ H Q=>t σ H fun c H1=>Q (!c) H1
theorem pw_and1 (ha:PT X a tA):PW X (.BoolOp .And [a] pos) tA:=by
  intro wh pins s σ H Q I h
  refine isTrue_and (thn (ha pins s σ H Q I h) fun c s1 e=>?_)
  cases c with
  | true=>exact isTrue_and_nil e
  | false=>exact e
theorem pw_or1 (ha:PT X a tA):PW X (.BoolOp .Or [a] pos) tA:=by
  intro wh pins s σ H Q I h
  refine isTrue_or (thn (ha pins s σ H Q I h) fun c s1 e=>?_)
  cases c with
  | false=>exact isTrue_or_nil e
  | true=>exact e
theorem pw_and (ha:PT X a tA) (hb:PW X (.BoolOp .And (b :: rest) pos) tB'):PW X (.BoolOp .And (a :: b :: rest) pos) (tAnd tA tB'):=by
  intro wh pins s σ H Q I h
  refine isTrue_and (thn (ha pins s σ H _ I h) fun c s1 ⟨H1,I1,q1⟩=>?_)
  cases c with
  | true=>exact hb wh pins s1 σ H1 Q I1 q1
  | false=>exact ⟨H1,I1,q1⟩
theorem pw_or (ha:PT X a tA) (hb:PW X (.BoolOp .Or (b :: rest) pos) tB'):PW X (.BoolOp .Or (a :: b :: rest) pos) (tOr tA tB'):=by
  intro wh pins s σ H Q I h
  refine isTrue_or (thn (ha pins s σ H _ I h) fun c s1 ⟨H1,I1,q1⟩=>?_)
  cases c with
  | true=>exact ⟨H1,I1,q1⟩
  | false=>exact hb wh pins s1 σ H1 Q I1 q1
theorem pt_not (ha:PT X a tA):PT X (.UnaryOp .Not a pos) (tNot tA):=by
  intro pins s σ H Q I h
  exact isTrue_not (ha pins s σ H (fun c H1=>Q (!c) H1) I h)
def tAndV (ta tb:TE):TE:=fun σ H Q=>ta σ H fun x H1=>∃ c,x=.bl c∧if c=true then tb σ H1 Q else Q (.bl false) H1
def tOrV (ta tb:TE):TE:=fun σ H Q=>ta σ H fun x H1=>∃ c,x=.bl c∧if c=true then Q (.bl true) H1 else tb σ H1 Q
def tNotV (ta:TE):TE:=fun σ H Q=>ta σ H fun x H1=>∃ c,x=.bl c∧Q (.bl (!c)) H1
theorem pe_one {op} {t:TE} (h:PE X a t):PE X (.BoolOp op [a] pos) t:=fun pins s σ H Q I hw=>BoolOp_one (h pins s σ H Q I hw)
theorem pe_and (ha:PE X a ta) (hb:PE X (.BoolOp .And (b :: rest) pos) tb):PE X (.BoolOp .And (a :: b :: rest) pos) (tAndV ta tb):=by
  intro pins s σ H Q I h
  refine BoolOp_and (thn (ha pins s σ H _ I h) fun v s1 ⟨x,H1,I1,r1,q1⟩=>?_)
  obtain ⟨c,rfl,q1⟩:=q1
  cases r1
  refine wpAny_truthy_bool ?_
  cases c with
  | true=>exact hb pins s1 σ H1 Q I1 q1
  | false=>exact ⟨.bl false,H1,I1,rfl,q1⟩
theorem pe_or (ha:PE X a ta) (hb:PE X (.BoolOp .Or (b :: rest) pos) tb):PE X (.BoolOp .Or (a :: b :: rest) pos) (tOrV ta tb):=by
  intro pins s σ H Q I h
  refine BoolOp_or (thn (ha pins s σ H _ I h) fun v s1 ⟨x,H1,I1,r1,q1⟩=>?_)
  obtain ⟨c,rfl,q1⟩:=q1
  cases r1
  refine wpAny_truthy_bool ?_
  cases c with
  | false=>exact hb pins s1 σ H1 Q I1 q1
  | true=>exact ⟨.bl true,H1,I1,rfl,q1⟩
theorem pe_not (ha:PE X a ta):PE X (.UnaryOp .Not a pos) (tNotV ta):=by
  intro pins s σ H Q I h
  refine UnaryOp_ (thn (ha pins s σ H _ I h) fun v s1 ⟨x,H1,I1,r1,q1⟩=>?_)
  obtain ⟨c,rfl,q1⟩:=q1
  cases r1
  exact not_of (wpAny_truthy_bool ⟨.bl (!c),H1,I1,rfl,q1⟩)
def tIf (t:TT) (ta tb:TE):TE:=fun σ H Q=>t σ H fun c H1=>if c=true then ta σ H1 Q else tb σ H1 Q
theorem pe_ifExp {c:Expr} (hc:PT X c tA) (ha:PE X a ta) (hb:PE X b tb):PE X (.IfExp c a b pos) (tIf tA ta tb):=by
  intro pins s σ H Q I h
  refine wpAny_IfExp (thn (hc pins s σ H _ I h) fun d s1 ⟨H1,I1,q1⟩=>?_)
  cases d with
  | true=>exact ha pins s1 σ H1 Q I1 q1
  | false=>exact hb pins s1 σ H1 Q I1 q1
end
end L2
namespace L2
open PySem PySem.Spec PyProof.Rows
def SqL (K:PySem.W.Frag) (H:Hp) (a:Addr) (xs:List V):Prop :=
  Rd H a (.lst xs) ∨
    ∃ (o:Obj) (its:Array Value) (n:Nat),K.lookup a=some o∧o.cls=.type "list"∧o.dict=none∧o.data=.seq its n∧its.size≤sizeLine∧Vals xs its.toList
def SqT (K:PySem.W.Frag) (H:Hp) (a:Addr) (xs:List V):Prop :=
  Rd H a (.tup xs) ∨
    ∃ (o:Obj) (its:Array Value) (n:Nat),K.lookup a=some o∧o.cls=.type "tuple"∧o.data=.seq its n∧its.size≤sizeLine∧Vals xs its.toList
def absV:Value→Option V
  | .none=>some .non
  | .bool b=>some (.bl b)
  | .int i _=>some (.int i)
  | .str x _=>some (.str x)
  | .bytes b _=>some (.byt b)
  | .float b _=>some (.flt b)
  | .ref a=>some (.ref a)
  | .type n=>some (.ty n)
  | _=>none
theorem RelV.abs {x:V} {u:Value} (r:RelV x u):absV u=some x:=by
  cases x with
  | non=>cases r; rfl
  | bl _=>cases r; rfl
  | int _=>obtain ⟨t,rfl⟩:=r; rfl
  | str _=>obtain ⟨t,rfl⟩:=r; rfl
  | byt _=>obtain ⟨t,rfl⟩:=r; rfl
  | flt _=>obtain ⟨t,rfl⟩:=r; rfl
  | ref _=>cases r; rfl
  | ty _=>cases r; rfl
theorem RelV.inj {x y:V} {u:Value} (r:RelV x u) (q:RelV y u):x=y:=Option.some.inj (r.abs.symm.trans q.abs)
theorem Vals.inj:∀ {xs ys:List V} {us:List Value},Vals xs us→Vals ys us→xs=ys
  | _,_,_,.nil,.nil=>rfl
  | _,_,_,.cons r t,.cons r' t'=>by rw [r.inj r',Vals.inj t t']
section
variable {X : Cx} {pins : List (Addr × Obj)} {σ : St} {H : Hp} {s : Shared} {a : Addr} {xs ys : List V}
theorem SqL.of {K:PySem.W.Frag} (h:H a=some (.lst xs)):SqL K H a xs:=.inl (.inl h)
theorem SqT.of {K:PySem.W.Frag} (h:H a=some (.tup xs)):SqT K H a xs:=.inl (.inl h)
theorem Inv.list (I:Inv X pins σ H s) (h:SqL X.K H a xs):∃ its:List Value,Vals xs its∧PlainL s.heap a its.toArray∧xs.length≤sizeLine:=by
  rcases h with h | ⟨o,its,n,hk,hc,hd,hs,hz,r⟩
  · obtain ⟨z,its,n,r,e⟩:=h.ok I.hok
    exact ⟨its,r,⟨_,n,e,rfl,rfl,rfl⟩,z⟩
  · refine ⟨its.toList,r,⟨o,n,I.kIn a o hk,hc,hd,by simpa using hs⟩,?_⟩
    have e:=r.length
    simp only [Array.length_toList] at e
    omega
theorem Inv.tuple (I:Inv X pins σ H s) (h:SqT X.K H a xs):∃ its:List Value,Vals xs its∧IsTup s.heap a its.toArray∧xs.length≤sizeLine:=by
  rcases h with h | ⟨o,its,n,hk,hc,hs,hz,r⟩
  · obtain ⟨z,its,r,p⟩:=h.ok I.hok
    exact ⟨its,r,p,z⟩
  · refine ⟨its.toList,r,⟨o,I.kIn a o hk,hc,n,by simpa using hs⟩,?_⟩
    have e:=r.length
    simp only [Array.length_toList] at e
    omega
theorem Inv.list_inj (I:Inv X pins σ H s) (h:SqL X.K H a xs) (h':SqL X.K H a ys):xs=ys:=by
  obtain ⟨its,r,⟨o,n,e,_,_,d⟩,_⟩:=I.list h
  obtain ⟨its',r',⟨o',n',e',_,_,d'⟩,_⟩:=I.list h'
  rw [e] at e'; cases e'
  rw [d] at d'
  injection d' with d1 _
  have:its=its':=by simpa using congrArg Array.toList d1
  subst this
  exact r.inj r'
end
abbrev Cx.wish (X:Cx) (E:Value→Shared→Prop):Cx:={ X with xe:=E }
abbrev Cx.nox (X:Cx):Cx:=X.wish fun _ _=>False
theorem Cx.Ok.wish {X:Cx} (ok:X.Ok) (E:Value→Shared→Prop):(X.wish E).Ok :=
  ⟨ok.mod,ok.kind,ok.glob,ok.blt,ok.above,ok.inj,ok.has,ok.cab,ok.hd,ok.frames,ok.stk,ok.exf,ok.bs,ok.bsz,ok.noex,ok.exfs,ok.funs,ok.frf⟩
theorem Cx.Ok.unwish {X:Cx} {E:Value→Shared→Prop} (ok:(X.wish E).Ok):X.Ok :=
  ⟨ok.mod,ok.kind,ok.glob,ok.blt,ok.above,ok.inj,ok.has,ok.cab,ok.hd,ok.frames,ok.stk,ok.exf,ok.bs,ok.bsz,ok.noex,ok.exfs,ok.funs,ok.frf⟩
section
variable {X : Cx} {pins : List (Addr × Obj)} {σ : St} {H : Hp} {s : Shared} {E : Value → Shared → Prop}
theorem Inv.wish (I:Inv X pins σ H s) (E:Value→Shared→Prop):Inv (X.wish E) pins σ H s:=⟨I.ok.wish E,I.os,I.bare,I.base,I.loc,I.cell,I.free,I.freeC,I.pin,I.hok,I.len,I.kno⟩
theorem Inv.unwish (I:Inv (X.wish E) pins σ H s):Inv X pins σ H s:=⟨I.ok.unwish,I.os,I.bare,I.base,I.loc,I.cell,I.free,I.freeC,I.pin,I.hok,I.len,I.kno⟩
theorem SP.unwish {D:Ends} {f:Flow} {s':Shared} (h:SP (X.wish E) pins D f s'):SP X pins D f s':=by
  cases f with
  | next=>obtain ⟨σ',H',I,q⟩:=h; exact ⟨σ',H',I.unwish,q⟩
  | brk=>obtain ⟨σ',H',I,q⟩:=h; exact ⟨σ',H',I.unwish,q⟩
  | cont=>obtain ⟨σ',H',I,q⟩:=h; exact ⟨σ',H',I.unwish,q⟩
  | ret u=>obtain ⟨v,σ',H',I,r,q⟩:=h; exact ⟨v,σ',H',I.unwish,r,q⟩
theorem PSs.nox {st:List Stmt} {t:TS} (h:PSs X.nox st t):PSs X st t:=fun pins s σ H D I hw =>
  wpAny_mono (h pins s σ H D (I.wish _) hw) (fun _ _ q=>q.unwish) fun _ _ z=>False.elim z
end
section
variable {X : Cx} {st : Stmt} {rest : List Stmt} {t u : TS} {e : Expr} {te : TE} {pos : Pos}
def tNext:TS:=fun D σ H=>D.nx σ H
def tSeq (t u:TS):TS:=fun D σ H=>t { D with nx:=u D } σ H
theorem pss_nil:PSs X [] tNext:=fun _ _ σ H _ I h=>wpAny_execs_nil ⟨σ,H,I,h⟩
theorem pss_cons (h1:PS X st t) (h2:PSs X rest u):PSs X (st :: rest) (tSeq t u):=by
  intro pins s σ H D I h
  refine wpAny_execs_cons (thn (h1 pins s σ H { D with nx:=u D } I h) fun f s1 q=>?_)
  cases f with
  | next =>
    obtain ⟨σ',H',I',q⟩:=q
    exact h2 pins s1 σ' H' D I' q
  | ret v=>exact q
  | brk=>exact q
  | cont=>exact q
theorem pss_one (h1:PS X st t):PSs X [st] t:=by
  intro pins s σ H D I h
  refine wpAny_execs_cons (thn (h1 pins s σ H D I h) fun f s1 q=>?_)
  cases f with
  | next=>exact wpAny_execs_nil q
  | ret v=>exact q
  | brk=>exact q
  | cont=>exact q
theorem Inv.quiet {pins:List (Addr × Obj)} {σ:St} {H:Hp} {s:Shared} (I:Inv X pins σ H s):interactive X.env=false:=by simp [interactive,I.ok.kind]
def tDrop (te:TE):TS:=fun D σ H=>te σ H fun _ H1=>D.nx σ H1
theorem ps_expr (he:PE X e te) (hs:swapsWith e none pos.line X.env=pure false:=by rfl):PS X (.Expr e pos) (tDrop te):=by
  intro pins s σ H D I h
  exact wpAny_Expr_any (thn (he pins s σ H _ I h) fun v s1 ⟨x,H1,I1,r1,q1⟩=>⟨σ,H1,I1,q1⟩) I.quiet hs
def tRet (te:TE):TS:=fun D σ H=>te σ H D.rt
theorem ps_ret (he:PE X e te):PS X (.Return (some e) pos) (tRet te):=by
  intro pins s σ H D I h
  exact wpAny_Return_some (thn (he pins s σ H _ I h) fun v s1 ⟨x,H1,I1,r1,q1⟩=>⟨x,σ,H1,I1,r1,q1⟩)
def tIfS (c:TT) (t u:TS):TS:=fun D σ H=>c σ H fun b H1=>if b=true then t D σ H1 else u D σ H1
theorem ps_if {c:Expr} {a b:List Stmt} {tc:TT} (hc:PT X c tc) (ha:PSs X a t) (hb:PSs X b u):PS X (.If c a b pos) (tIfS tc t u):=by
  intro pins s σ H D I h
  refine wpAny_If (thn (hc pins s σ H _ I h) fun d s1 ⟨H1,I1,q1⟩=>?_)
  cases d with
  | true=>exact ha pins s1 σ H1 D I1 q1
  | false=>exact hb pins s1 σ H1 D I1 q1
end
abbrev TG:=V→St→Hp→(St→Hp→Prop)→Prop
abbrev TGs:=List V→St→Hp→(St→Hp→Prop)→Prop
def PG (X:Cx) (target:Expr) (t:TG):Prop :=
  ∀ (pins:List (Addr × Obj)) (s:Shared) (σ:St) (H:Hp) (v:V) (u:Value) (Q:St→Hp→Prop),Inv X pins σ H s→RelV v u→t v σ H Q →
    wpAny (model X.prog X.w) X.A (assign target X.env u) (fun _ s'=>∃ σ' H',Inv X pins σ' H' s'∧Q σ' H') X.xe s
def PGs (X:Cx) (ts:List Expr) (t:TGs):Prop :=
  ∀ (pins:List (Addr × Obj)) (s:Shared) (σ:St) (H:Hp) (vs:List V) (us:List Value) (Q:St→Hp→Prop),Inv X pins σ H s→Vals vs us→t vs σ H Q →
    wpAny (model X.prog X.w) X.A (assignInOrder ((assignEach ts X.env).map (·.2)) us) (fun _ s'=>∃ σ' H',Inv X pins σ' H' s'∧Q σ' H') X.xe s
abbrev TSet:=V→V→V→Hp→(Hp→Prop)→Prop
def PSet (X:Cx) (t:TSet):Prop :=
  ∀ (pins:List (Addr × Obj)) (s:Shared) (σ:St) (H:Hp) (o i v:V) (ov iv u:Value) (Q:Hp→Prop),Inv X pins σ H s→RelV o ov→RelV i iv→RelV v u→t o i v H Q →
    wpAny (model X.prog X.w) X.A (setItem ov iv u) (fun _ s'=>∃ H',Inv X pins σ H' s'∧Q H') X.xe s
abbrev TIp:=V→V→Hp→VK→Prop
section
variable {X : Cx} {pos : Pos}
def gName (i:Nat):TG:=fun v σ H Q=>Q (σ.set i (some v)) H
theorem pg_name {i:Nat} {x:Str} (hN:X.N.Nodup) (hi:X.N[i]?=some x) (hx:Loc X.env.scope x) (hf:X.fn x=true∨X.env.scope.names.lookup x=some .local:=by first | exact .inl rfl | exact .inr rfl | assumption) (hkn:X.kn i=Option.none:=by rfl):PG X (.Name x pos) (gName i):=by
  intro pins s σ H v u Q I r h
  exact wpAny_assign_Name (store_ok I hN hi hx r (fun s' I'=>⟨_,H,I',h⟩) hf hkn)
def gNil:TGs:=fun vs σ H Q=>vs=[]∧Q σ H
def gCons (t:TG) (u:TGs):TGs:=fun vs σ H Q=>∃ v r,vs=v :: r∧t v σ H fun σ' H'=>u r σ' H' Q
theorem pgs_nil:PGs X [] gNil:=by
  intro pins s σ H vs us Q I r h
  obtain ⟨e,h⟩:=h
  subst e
  cases r
  exact assignInOrder_nil ⟨σ,H,I,h⟩
theorem pgs_cons {e:Expr} {es:List Expr} {t:TG} {u:TGs} (h1:PG X e t) (h2:PGs X es u)
    (hs:(assignEach (e :: es) X.env).map (·.2)=assign e X.env :: (assignEach es X.env).map (·.2):=by rfl):PGs X (e :: es) (gCons t u):=by
  intro pins s σ H vs us Q I r h
  obtain ⟨v,vr,e1,h⟩:=h
  subst e1
  cases r with
  | cons r rr =>
    rw [hs]
    refine assignInOrder_cons (thn (h1 pins s σ H _ _ _ I r h) fun _ s1 ⟨σ1,H1,I1,q1⟩=>?_)
    exact h2 pins s1 σ1 H1 _ _ Q I1 rr q1
def gTup (K:PySem.W.Frag) (n:Nat) (t:TGs):TG:=fun v σ H Q=>∃ a xs,v=.ref a∧SqT K H a xs∧xs.length=n∧t xs σ H Q
theorem pg_tup {es:List Expr} {k:Nat} {t:TGs} {n:Nat} (hc:X.calm=true) (h:PGs X es t)
    (hn:(assignEach es X.env).length=n:=by rfl) (hst:(assignEach es X.env).findIdx? (·.1)=none:=by rfl):PG X (.Tuple es k pos) (gTup X.K n t):=by
  intro pins s σ H v u Q I r hw
  obtain ⟨a,xs,e1,hq,hl,hw⟩:=hw
  subst e1
  cases r
  obtain ⟨its,rv,ht,hz⟩:=I.tuple hq
  refine assign_Tuple_tuple (I.ok.hd hc) ht (by simp [hn,← hl,rv.length]) hst fun h' hx=>?_
  have I1:Inv X pins σ H { s with heap:=h' }:=I.kept (t':=s.toks) fun b o e=>hx b o (Nat.ne_of_lt (Heap.lt_size e)) e
  exact h pins _ σ H xs _ Q I1 (by simpa using rv) hw
def gSub (to ti:TE) (t:TSet):TG:=fun v σ H Q=>to σ H fun o H1=>ti σ H1 fun i H2=>t o i v H2 fun H3=>Q σ H3
theorem pg_sub {o i:Expr} {to ti:TE} {t:TSet} (ho:PE X o to) (hi:PE X i ti) (hs:PSet X t)
    (ha:∀ v,assign (.Subscript o i pos) X.env v=(do
      let ov ← holding [v] (eval o X.env)
      let iv ← holding [v,ov] (eval i X.env)
      standAt pos
      holding [v,ov,iv] (setItem ov iv v)
      release [v,ov,iv] []):=by intro _; rfl):PG X (.Subscript o i pos) (gSub to ti t):=by
  intro pins s σ H v u Q I r h
  rw [ha]
  refine wpAny_bind (wpAny_holding (thn (ho pins s σ H _ I h) fun ov s1 ⟨x,H1,I1,r1,q1⟩=>?_))
  refine wpAny_bind (wpAny_holding (thn (hi pins s1 σ H1 _ I1 q1) fun iv s2 ⟨y,H2,I2,r2,q2⟩=>?_))
  refine wpAny_bind (wpAny_standAt (wpAny_bind (wpAny_holding (thn (hs pins s2 σ H2 x y v ov iv u _ I2 r1 r2 r q2) fun _ s3 ⟨H3,I3,q3⟩=>?_))))
  exact wpAny_release ⟨σ,H3,I3,q3⟩
def tAsg (te:TE) (g:TG):TS:=fun D σ H=>te σ H fun x H1=>g x σ H1 D.nx
theorem ps_asg {tg e:Expr} {te:TE} {g:TG} (he:PE X e te) (hg:PG X tg g) (hs:swapsWithSole [tg] e pos.line X.env=pure false:=by rfl) (hw:swappedStores [tg] e X.env=pure none:=by rfl)
    (h1:(assignEach [tg] X.env).map (·.2)=[assign tg X.env]:=by rfl):PS X (.Assign [tg] e pos) (tAsg te g):=by
  intro pins s σ H D I h
  refine wpAny_Assign_stores (thn (he pins s σ H _ I h) fun v s1 ⟨x,H1,I1,r1,q1⟩=>?_) hs hw
  rw [h1]
  exact thn (hg pins s1 σ H1 x v _ I1 r1 q1) fun _ s2 q=>q
theorem ps_set {i:Nat} {x:Str} {e:Expr} {te:TE} {pos':Pos} (hN:X.N.Nodup) (hi:X.N[i]?=some x) (hx:Loc X.env.scope x) (he:PE X e te) (hs:swapsWith e (some (.Name x pos')) pos.line X.env=pure false:=by rfl) (hf:X.fn x=true∨X.env.scope.names.lookup x=some .local:=by first | exact .inl rfl | exact .inr rfl | assumption) (hkn:X.kn i=Option.none:=by rfl) :
    PS X (.Assign [.Name x pos'] e pos) (tAsg te (gName i)):=by
  intro pins s σ H D I h
  refine wpAny_Assign_Name (thn (he pins s σ H _ I h) fun v s1 ⟨y,H1,I1,r1,q1⟩=>?_) hs
  exact store_ok I1 hN hi hx r1 (fun s2 I2=>⟨_,H1,I2,q1⟩) hf hkn
end
section
variable {X : Cx} {pos : Pos}
def tWhile (c:TT) (tb:TS):TS:=fun D σ H=>∃ W:Nat→St→Hp→Prop,(∃ m,W m σ H)∧∀ m σ H,W m σ H →
  c σ H fun b H1=>if b=true then ∃ N:St→Hp→Prop,(∀ σ' H',N σ' H'→∃ m',m' < m∧W m' σ' H')∧tb { D with nx:=N,ct:=N,bk:=D.nx } σ H1 else D.nx σ H1
theorem ps_while {c:Expr} {body:List Stmt} {tc:TT} {tb:TS} (hp:PassesOwn (model X.prog X.w) X.A X.env X.xe) (hc:PT X c tc) (hb:PSs X body tb):PS X (.While c body [] pos) (tWhile tc tb):=by
  intro pins s σ H D I h
  obtain ⟨W,⟨m0,w0⟩,turn⟩:=h
  refine wpAny_While (codeAny_whileLoop (fun n s'=>∃ σ' H',Inv X pins σ' H' s'∧W n σ' H') ?_ m0 ⟨σ,H,I,w0⟩)
  rintro n s1 ⟨σ1,H1,I1,w1⟩
  refine wpAny_passesOwn hp (thn (hc pins s1 σ1 H1 _ I1 (turn n σ1 H1 w1)) fun b s2 ⟨H2,I2,q2⟩=>?_)
  cases b with
  | true =>
    obtain ⟨N,hN,q2⟩:=q2
    rw [if_pos rfl]
    refine wpAny_passesOwn hp (thn (hb pins s2 σ1 H2 _ I2 q2) fun f s3 q3=>?_)
    cases f with
    | next =>
      obtain ⟨σ3,H3,I3,n3⟩:=q3
      obtain ⟨m',hm,w3⟩:=hN σ3 H3 n3
      exact ⟨m',hm,σ3,H3,I3,w3⟩
    | cont =>
      obtain ⟨σ3,H3,I3,n3⟩:=q3
      obtain ⟨m',hm,w3⟩:=hN σ3 H3 n3
      exact ⟨m',hm,σ3,H3,I3,w3⟩
    | brk=>exact q3
    | ret v=>exact q3
  | false =>
    rw [if_neg Bool.false_ne_true]
    exact wpAny_execs_nil ⟨σ1,H2,I2,q2⟩
end
structure It where
  go:Nat→Hp→Prop
  yld:Nat→Hp→V→Hp→Prop
  stop:Nat→Hp→Prop
def FpOk (X:Cx) (pins:List (Addr × Obj)) (H:Hp) (b:Addr):Prop :=
  H b=none∧b≠X.env.locals∧b ∉ X.fs∧(b∈X.ex∨X.s₀.heap.objs.size≤b)∧(∀ x c,X.env.cells.lookup x=some c→c≠b)∧∀ p∈X.pn ++ pins,p.1≠b
theorem Inv.fpOk {X:Cx} {pins:List (Addr × Obj)} {σ:St} {H H':Hp} {s:Shared} {b:Addr} (I:Inv X pins σ H s) (hb:s.heap.objs.size≤b) (hn:H' b=none):FpOk X pins H' b:=by
  refine ⟨hn,Nat.ne_of_gt (Nat.lt_of_lt_of_le I.lt hb),I.nofs hb,.inr (Nat.le_trans I.sz hb),fun x c e z=>?_,fun p hp z=>?_⟩
  · obtain ⟨v,q⟩:=I.cell x c e
    exact absurd (Nat.lt_of_lt_of_le q.lt (by rw [z]; exact hb)) (Nat.lt_irrefl _)
  · exact absurd (Nat.lt_of_lt_of_le (Heap.lt_size (I.pin p hp).1) (by rw [z]; exact hb)) (Nat.lt_irrefl _)
structure Turn (P:Program) (w:World) (K:PySem.W.Frag) (tg:Expr) (J:It) (fp:List Addr) (it:Addr) (tn:Nat→Heap→Prop):Prop where
  mem:it∈fp
  obj:∀ i h,tn i h→∀ b∈fp,∃ o,h.get? b=some o∧∀ v,o.data≠.cell v
  keep:∀ i h h',tn i h→(∀ b∈fp,∀ o,h.get? b=some o→h'.get? b=some o)→tn i h'
  item:∀ (X:Cx),X.prog=P→X.w=w→X.K=K→X.calm=true→∀ (i:Nat) (pins:List (Addr × Obj)) (s:Shared) (σ:St) (H:Hp) (E:Value→Shared→Prop),Inv X pins σ H s→(∀ b∈fp,FpOk X pins H b)→tn i s.heap→J.go i H →
    wpAny (model P w) X.A (pyNext (.ref it)) (fun r s1=>∃ u,r=some u ∧
      wpAny (model P w) X.A (letOwnedTupleGo tg (.ref it) u) (fun _ s2=>∃ x H',Inv X pins σ H' s2∧RelV x u∧J.yld i H x H'∧tn (i + 1) s2.heap∧∀ b∈fp,H' b=none) E s1) E s
  done:∀ (X:Cx),X.prog=P→X.w=w→X.K=K→X.calm=true→∀ (i:Nat) (pins:List (Addr × Obj)) (s:Shared) (σ:St) (H:Hp) (E:Value→Shared→Prop),Inv X pins σ H s→(∀ b∈fp,FpOk X pins H b)→tn i s.heap→J.stop i H →
    wpAny (model P w) X.A (pyNext (.ref it)) (fun r s1=>r=none∧Inv X pins σ H s1) E s
  self:∀ (A:Around) (i:Nat) (s:Shared) (Q:Value→Shared→Prop) (E:Value→Shared→Prop),tn i s.heap→Q (.ref it) s→wpAny (model P w) A (pyIter (.ref it)) Q E s
abbrev TI:=St→Hp→(It→Hp→Prop)→Prop
def PIE (X:Cx) (pins:List (Addr × Obj)) (σ:St) (tg:Expr) (R:It→Hp→Prop) (itv:Value) (s2:Shared):Prop :=
  ∃ (it:Addr) (fp:List Addr) (tn:Nat→Heap→Prop) (J:It) (H':Hp),itv=.ref it∧Inv X pins σ H' s2∧Turn X.prog X.w X.K tg J fp it tn∧tn 0 s2.heap∧(∀ b∈fp,FpOk X pins H' b)∧R J H'
def PI (X:Cx) (tg iter:Expr) (wi:TI):Prop :=
  ∀ (pins:List (Addr × Obj)) (s:Shared) (σ:St) (H:Hp) (R:It→Hp→Prop),Inv X pins σ H s→wi σ H R →
    wpAny (model X.prog X.w) X.A (eval iter X.env) (fun v s1=>wpAny (model X.prog X.w) X.A (pyIter v) (PIE X pins σ tg R) X.xe s1) X.xe s
theorem go_of {M:Model} {A:Around} {E:Value→Shared→Prop} {s:Shared} {tg:Expr} {it:Addr} {u:Value} {o:Obj} {n:String} {vs:Array Value} {Q:Unit→Shared→Prop} (ho:s.heap.get? it=some o) (hc:o.cls=.type n) (hd:o.data=.fields vs)
    (hn:["enumerate","zip","dict_itemiterator","dict_reverseitemiterator","odict_iterator","itertools.zip_longest","itertools.pairwise"].contains n=false) (hQ:Q () s):wpAny M A (letOwnedTupleGo tg (.ref it) u) Q E s:=by
  unfold letOwnedTupleGo
  cases tg <;> first
    | exact wpAny_pure hQ
    | (cases u <;> first
        | exact wpAny_pure hQ
        | (refine wpAny_bind (wpAny_load ho ?_)
           rw [hc,hd]
           show wpAny M A (if (["enumerate","zip","dict_itemiterator","dict_reverseitemiterator","odict_iterator","itertools.zip_longest","itertools.pairwise"].contains n && vs[0]? == some (rawInt _))=true then _ else _) Q E s
           rw [if_neg (by intro h; rw [hn,Bool.false_and] at h; cases h)]
           exact wpAny_pure hQ))
def Itl (K:PySem.W.Frag) (a:Addr):It :=
  ⟨fun i H=>∃ xs x,SqL K H a xs∧xs[i]?=some x,fun i H x H'=>H'=H∧∀ xs,SqL K H a xs→xs[i]?=some x,fun i H=>∃ xs,SqL K H a xs∧xs.length≤i⟩
def Itr (lo:Int) (n:Nat):It:=⟨fun i _=>i < n,fun i H x H'=>H'=H∧x=.int (lo + i),fun i _=>n≤i⟩
theorem turn_list {P:Program} {w:World} {K:PySem.W.Frag} {tg:Expr} (a it:Addr):Turn P w K tg (Itl K a) [it] it (fun i h=>h.IsListIter it a i) where
  mem:=by simp
  obj:=fun i h st b hb=>by
    have e:b=it:=by simpa using hb
    subst e
    obtain ⟨o,e,c,d⟩:=st
    exact ⟨o,e,fun v z=>by rw [d] at z; cases z⟩
  keep:=fun i h h' st k=>st.at fun o e=>k it (by simp) o e
  item:=by
    intro X hP hw hK hc i pins s σ H E I hf st hg
    subst hP hw hK
    obtain ⟨xs,x,hq,hx⟩:=hg
    obtain ⟨its,rv,p,hz⟩:=I.list hq
    obtain ⟨u,hu,ru⟩:=rv.get hx
    obtain ⟨f0,f1,f2,f3,f4,f5⟩:=hf it (by simp)
    refine wpAny_pyNext_list_item st p.isList (x:=u) (by simpa using hu) fun h' st' sb=>?_
    have I1:Inv X pins σ H { s with heap:=h' }:=I.turned (t':=s.toks) (fun b o hb e=>(sb.2 b hb).trans e) f0 f1 f3 f4 f5
    obtain ⟨o,e,c,d⟩:=id st'
    exact ⟨u,rfl,go_of (s:={ s with heap:=h' }) e c d (by decide) ⟨x,H,I1,ru,⟨rfl,fun ys hy=>by rw [I.list_inj hy hq]; exact hx⟩,st',fun b hb=>(hf b hb).1⟩⟩
  done:=by
    intro X hP hw hK hc i pins s σ H E I hf st hg
    subst hP hw hK
    obtain ⟨xs,hq,hx⟩:=hg
    obtain ⟨its,rv,p,hz⟩:=I.list hq
    obtain ⟨f0,f1,f2,f3,f4,f5⟩:=hf it (by simp)
    have hl:=rv.length
    exact wpAny_pyNext_list_end (I.ok.hd hc) st p.isList (by simp; omega) fun h' eb=>⟨rfl,I.turned (t':=s.toks) (fun b o hb e=>eb b o hb e) f0 f1 f3 f4 f5⟩
  self:=fun _ _ _ _ _ st h=>wpAny_pyIter_listiter st h
theorem turn_range {P:Program} {w:World} {K:PySem.W.Frag} {tg:Expr} (it:Addr) (lo:Int) (n:Nat):Turn P w K tg (Itr lo n) [it] it (fun i h=>IsRangeIter h it (lo + (i:Nat) * 1) ((n:Int) - (i:Nat)) 1) where
  mem:=by simp
  obj:=fun i h st b hb=>by
    have e:b=it:=by simpa using hb
    subst e
    exact ⟨_,st,fun v z=>by
      have z':Data.fields _=Data.cell v:=z
      cases z'⟩
  keep:=fun i h h' st k=>k it (by simp) _ st
  item:=by
    intro X hP hw hK hc i pins s σ H E I hf st hg
    subst hP hw hK
    obtain ⟨f0,f1,f2,f3,f4,f5⟩:=hf it (by simp)
    have W:=Walks.range (prog:=X.prog) (w:=X.w) (I.ok.hd hc) it lo 1 n
    refine W.item i s _ _ hg st fun v h' tk hv st' kk=>?_
    obtain ⟨t,rfl⟩:=hv
    have I1:Inv X pins σ H { s with heap:=h',toks:=tk }:=I.turned (fun b o hb e=>kk b o (by simpa using hb) e) f0 f1 f3 f4 f5
    refine ⟨_,rfl,go_of (s:={ s with heap:=h',toks:=tk }) (n:="range_iterator") st' rfl rfl (by decide) ⟨.int (lo + i),H,I1,⟨t,?_⟩,⟨rfl,rfl⟩,st',fun b hb=>(hf b hb).1⟩⟩
    rw [Int.mul_one]
  done:=by
    intro X hP hw hK hc i pins s σ H E I hf st hg
    subst hP hw hK
    obtain ⟨f0,f1,f2,f3,f4,f5⟩:=hf it (by simp)
    exact wpAny_pyNext_range_end (I.ok.hd hc) st (by have:n≤i:=hg; omega) fun h' eb=>⟨rfl,I.turned (t':=s.toks) (fun b o hb e=>eb b o hb e) f0 f1 f3 f4 f5⟩
  self:=fun _ _ _ _ _ st h=>wpAny_pyIter_rangeiter st h
end L2
namespace L2
open PySem PySem.Spec PyProof.Rows
section
variable {X : Cx} {tg : Expr}
def iList (K:PySem.W.Frag) (tl:TE):TI:=fun σ H R=>tl σ H fun x H1=>∃ a,x=.ref a∧(∃ xs,SqL K H1 a xs)∧R (Itl K a) H1
theorem pi_list {l:Expr} {tl:TE} (hl:PE X l tl):PI X tg l (iList X.K tl):=by
  intro pins s σ H R I h
  refine thn (hl pins s σ H _ I h) fun v s1 ⟨x,H1,I1,r1,q1⟩=>?_
  obtain ⟨a,e,⟨xs,hq⟩,q⟩:=q1
  subst e
  cases r1
  obtain ⟨its,rv,p,hz⟩:=I1.list hq
  refine wpAny_pyIter_list p.isList ?_
  refine ⟨s1.heap.objs.size,[s1.heap.objs.size],_,_,H1,rfl,I1.kept (t':=s1.toks) fun b o e=>Heap.get?_push_of_some _ e,turn_list a _,⟨_,Heap.get?_push_size _ rfl,rfl,rfl⟩,fun b hb=>?_,q⟩
  have e:b=s1.heap.objs.size:=by simpa using hb
  subst e
  exact I1.fpOk (Nat.le_refl _) (I1.hok.fresh (Nat.le_refl _))
theorem range_it {pins:List (Addr × Obj)} {σ:St} {H:Hp} {s:Shared} {R:It→Hp→Prop} {E:Value→Shared→Prop} {lo hi:Int} {t u v:Tok} {tk:Nat} (I:Inv X pins σ H s) (h1:-(2 ^ 62)≤lo) (h2:lo < 2 ^ 62) (h3:-(2 ^ 62)≤hi) (h4:hi < 2 ^ 62)
    (q:R (Itr lo (hi - lo).toNat) H):wpAny (model X.prog X.w) X.A (pyIter (.ref s.heap.objs.size)) (PIE X pins σ tg R) E { s with heap:=s.heap.push { cls:=.type "range",data:=.fields #[.int lo t,.int hi u,.int 1 v] },toks:=tk }:=by
  refine wpAny_pyIter_range (IsRange.new ..) (small_one h1 h2 h3 h4) ?_
  have I1:Inv X pins σ H { s with heap:=s.heap.push { cls:=.type "range",data:=.fields #[.int lo t,.int hi u,.int 1 v] },toks:=tk }:=I.kept fun b o e=>Heap.get?_push_of_some _ e
  refine ⟨(s.heap.push { cls:=.type "range",data:=.fields #[.int lo t,.int hi u,.int 1 v] }).objs.size,[(s.heap.push { cls:=.type "range",data:=.fields #[.int lo t,.int hi u,.int 1 v] }).objs.size],_,_,H,rfl,
    I1.kept (t':=tk) fun b o e=>Heap.get?_push_of_some _ e,turn_range _ lo (hi - lo).toNat,?_,fun b hb=>?_,q⟩
  · have e1:lo + ((0:Nat):Int) * 1=lo:=by simp
    have e2:(((hi - lo).toNat:Nat):Int) - ((0:Nat):Int)=Builtin.Range.rangeSize lo hi 1:=by rw [rangeSize_one]; split <;> omega
    show IsRangeIter _ _ (lo + ((0:Nat):Int) * 1) ((((hi - lo).toNat:Nat):Int) - ((0:Nat):Int)) 1
    rw [e1,e2]
    exact Heap.get?_push_size _ rfl
  · have e:b=(s.heap.push { cls:=.type "range",data:=.fields #[.int lo t,.int hi u,.int 1 v] }).objs.size:=by simpa using hb
    subst e
    exact I1.fpOk (Nat.le_refl _) (I1.hok.fresh (Nat.le_refl _))
def iRng1 (ta:TA):TI:=fun σ H R=>ta σ H fun vs H1=>∃ j:Int,vs=[.int j]∧-(2 ^ 62)≤j∧j < 2 ^ 62∧R (Itr 0 j.toNat) H1
theorem pi_range1 {a:Expr} {ta:TA} {p pos:Pos} (hg:Gl X "range") (hm:X.mg "range"=none) (ha:PA X [a] ta) (hs:starEach [a] X.env=[(false,eval a X.env)]:=by rfl):PI X tg (.Call (.Name "range" p) [a] [] pos) (iRng1 ta):=by
  intro pins s σ H R I h
  refine Call_ (ld_blt I hg hm boot_range (PyProof.Rows.callWith_type1 (thn (ha pos pins s σ H _ I h) fun us s1 ⟨vs,H1,I1,r1,q1⟩=>?_) hs rfl))
  obtain ⟨j,e,q1,q2,q⟩:=q1
  subst e
  cases r1 with
  | cons r rr =>
    cases rr
    obtain ⟨t,rfl⟩:=r
    exact call_range_1 (range_it I1 (by omega) (by omega) q1 q2 (by simpa using q))
def tFor (wi:TI) (g:TG) (tb:TS):TS:=fun D σ H=>wi σ H fun J H1=>∃ W:Nat→Nat→St→Hp→Prop,(∃ m,W 0 m σ H1)∧∀ i m σ H,W i m σ H →
  (J.stop i H∧D.nx σ H)∨(J.go i H∧∃ N:St→Hp→Prop,(∀ σ' H',N σ' H'→∃ m',m' < m∧W (i + 1) m' σ' H')∧∀ x H',J.yld i H x H'→g x σ H' fun σ2 H2=>tb { D with nx:=N,ct:=N,bk:=D.nx } σ2 H2)
def pinsAt (fp:List Addr) (h:Heap):List (Addr × Obj):=fp.filterMap fun b=>(h.get? b).map fun o=>(b,o)
theorem mem_pinsAt {fp:List Addr} {h:Heap} {b:Addr} {o:Obj} (hb:b∈fp) (e:h.get? b=some o):(b,o)∈pinsAt fp h:=List.mem_filterMap.mpr ⟨b,hb,by rw [e]; rfl⟩
theorem of_pinsAt {fp:List Addr} {h:Heap} {p:Addr × Obj} (hp:p∈pinsAt fp h):p.1∈fp∧h.get? p.1=some p.2:=by
  obtain ⟨b,hb,e⟩:=List.mem_filterMap.mp hp
  cases q:h.get? b with
  | none=>rw [q] at e; cases e
  | some o =>
    rw [q] at e
    have e':(b,o)=p:=Option.some.inj e
    subst e'
    exact ⟨hb,q⟩
theorem Inv.pinned {pins:List (Addr × Obj)} {σ:St} {H:Hp} {s:Shared} {fp:List Addr} (I:Inv X pins σ H s) (hf:∀ b∈fp,FpOk X pins H b) (ho:∀ b∈fp,∃ o,s.heap.get? b=some o∧∀ v,o.data≠.cell v):Inv X (pins ++ pinsAt fp s.heap) σ H s :=
  I.pins_of fun p hp=>(List.mem_append.mp hp).elim (fun z=>I.pin p (List.mem_append_right _ z)) fun z=>by
    obtain ⟨hb,e⟩:=of_pinsAt z
    obtain ⟨f0,f1,f2,_⟩:=hf p.1 hb
    obtain ⟨o,e',d⟩:=ho p.1 hb
    rw [e] at e'; cases e'
    exact ⟨e,f0,f1,f2,d⟩
theorem Inv.unpinned {pins pl:List (Addr × Obj)} {σ:St} {H:Hp} {s:Shared} (I:Inv X (pins ++ pl) σ H s):Inv X pins σ H s:=I.pins_of fun p hp=>I.pin p (List.mem_append_right _ (List.mem_append_left _ hp))
theorem ps_for {iter:Expr} {body:List Stmt} {wi:TI} {g:TG} {tb:TS} {pos:Pos} (hp:PassesOwn (model X.prog X.w) X.A X.env X.xe) (hc:X.calm=true) (hi:PI X tg iter wi) (hg:PG X tg g) (hb:PSs X body tb)
    (hs:∀ x,foldedSetIterable iter X.env x=pure x:=by intro _; rfl):PS X (.For tg iter body [] pos) (tFor wi g tb):=by
  intro pins s σ H D I h
  refine wpAny_For (thn (hi pins s σ H _ I h) fun v s1 h1=>thn h1 fun itv s2 h2=>?_) hs
  obtain ⟨it,fp,tn,J,H2,e,I2,T,st2,f2,W,⟨m0,w0⟩,turn⟩:=h2
  subst e
  have stat:∀ {H':Hp},(∀ b∈fp,H' b=none)→∀ b∈fp,FpOk X pins H' b:=fun hn b hb=>⟨hn b hb,(f2 b hb).2⟩
  refine codeAny_forLoop_any (fun n s'=>∃ i σ' H',Inv X pins σ' H' s'∧tn i s'.heap∧(∀ b∈fp,H' b=none)∧W i n σ' H') ?_ m0 ⟨0,σ,H2,I2,st2,fun b hb=>(f2 b hb).1,w0⟩
  rintro n s3 ⟨i,σ3,H3,I3,st3,fr3,w3⟩
  rcases turn i n σ3 H3 w3 with ⟨stop,qn⟩ | ⟨go,N,hN,step⟩
  · refine wpAny_passesOwn hp (thn (T.done X rfl rfl rfl hc i pins s3 σ3 H3 X.xe I3 (stat fr3) st3 stop) fun r s4 ⟨hr,I4⟩=>?_)
    subst hr
    exact wpAny_execs_nil ⟨σ3,H3,I4,qn⟩
  · refine wpAny_passesOwn hp (thn (T.item X rfl rfl rfl hc i pins s3 σ3 H3 X.xe I3 (stat fr3) st3 go) fun r s4 ⟨u,hr,h4⟩=>?_)
    subst hr
    refine wpAny_passesOwn hp (thn h4 fun _ s5 ⟨x,H5,I5,r5,y5,st5,fr5⟩=>?_)
    have I5':=I5.pinned (stat fr5) (T.obj _ _ st5)
    refine wpAny_passesOwn hp (thn (hg _ s5 σ3 H5 x u _ I5' r5 (step x H5 y5)) fun _ s6 ⟨σ6,H6,I6,q6⟩=>?_)
    refine wpAny_passesOwn hp (thn (hb _ s6 σ6 H6 _ I6 q6) fun f s7 q7=>?_)
    have again:∀ {σ7:St} {H7:Hp},Inv X (pins ++ pinsAt fp s5.heap) σ7 H7 s7→N σ7 H7→∃ m,m < n∧∃ i σ' H',Inv X pins σ' H' s7∧tn i s7.heap∧(∀ b∈fp,H' b=none)∧W i m σ' H':=fun {σ7 H7} I7 n7=>by
      obtain ⟨m',hm,w7⟩:=hN σ7 H7 n7
      refine ⟨m',hm,i + 1,σ7,H7,I7.unpinned,T.keep _ _ _ st5 fun b hb o e=>(I7.pin (b,o) (List.mem_append_right _ (List.mem_append_right _ (mem_pinsAt hb e)))).1,fun b hb=>?_,w7⟩
      obtain ⟨o,e,d⟩:=T.obj _ _ st5 b hb
      exact (I7.pin (b,o) (List.mem_append_right _ (List.mem_append_right _ (mem_pinsAt hb e)))).2.1
    cases f with
    | next=>obtain ⟨σ7,H7,I7,n7⟩:=q7; exact again I7 n7
    | cont=>obtain ⟨σ7,H7,I7,n7⟩:=q7; exact again I7 n7
    | brk=>obtain ⟨σ7,H7,I7,q7⟩:=q7; exact ⟨σ7,H7,I7.unpinned,q7⟩
    | ret v=>obtain ⟨x7,σ7,H7,I7,r7,q7⟩:=q7; exact ⟨x7,σ7,H7,I7.unpinned,r7,q7⟩
end
theorem for_list {K:PySem.W.Frag} {a:Addr} {xs:List V} {g:TG} {tb:TS} {D:Ends} {σ:St} {H:Hp} (Pv:Nat→St→Hp→Prop) (h0:Pv 0 σ H) (hl:∀ i σ H,i≤xs.length→Pv i σ H→SqL K H a xs)
    (hs:∀ i x σ H,xs[i]?=some x→Pv i σ H→g x σ H fun σ2 H2=>tb { D with nx:=Pv (i + 1),ct:=Pv (i + 1),bk:=D.nx } σ2 H2) (hd:∀ σ H,Pv xs.length σ H→D.nx σ H) :
    ∃ W:Nat→Nat→St→Hp→Prop,(∃ m,W 0 m σ H)∧∀ i m σ H,W i m σ H →
      ((Itl K a).stop i H∧D.nx σ H)∨((Itl K a).go i H∧∃ N:St→Hp→Prop,(∀ σ' H',N σ' H'→∃ m',m' < m∧W (i + 1) m' σ' H')∧∀ x H',(Itl K a).yld i H x H'→g x σ H' fun σ2 H2=>tb { D with nx:=N,ct:=N,bk:=D.nx } σ2 H2):=by
  refine ⟨fun i m σ H=>m=xs.length - i∧i≤xs.length∧Pv i σ H,⟨xs.length,by simp,Nat.zero_le _,h0⟩,?_⟩
  rintro i m σ H ⟨rfl,hi,p⟩
  have q:=hl i σ H hi p
  by_cases hlt:i < xs.length
  · refine .inr ⟨⟨xs,xs[i],q,by simp [hlt]⟩,Pv (i + 1),fun σ' H' p'=>⟨xs.length - (i + 1),by omega,rfl,hlt,p'⟩,fun x H' y=>?_⟩
    obtain ⟨e,y⟩:=y
    subst e
    exact hs i x σ _ (y xs q) p
  · have e:i=xs.length:=by omega
    subst e
    exact .inl ⟨⟨xs,q,Nat.le_refl _⟩,hd σ H p⟩
theorem for_range {lo:Int} {n:Nat} {g:TG} {tb:TS} {D:Ends} {σ:St} {H:Hp} (Pv:Nat→St→Hp→Prop) (h0:Pv 0 σ H)
    (hs:∀ i σ H,i < n→Pv i σ H→g (.int (lo + i)) σ H fun σ2 H2=>tb { D with nx:=Pv (i + 1),ct:=Pv (i + 1),bk:=D.nx } σ2 H2) (hd:∀ σ H,Pv n σ H→D.nx σ H) :
    ∃ W:Nat→Nat→St→Hp→Prop,(∃ m,W 0 m σ H)∧∀ i m σ H,W i m σ H →
      ((Itr lo n).stop i H∧D.nx σ H)∨((Itr lo n).go i H∧∃ N:St→Hp→Prop,(∀ σ' H',N σ' H'→∃ m',m' < m∧W (i + 1) m' σ' H')∧∀ x H',(Itr lo n).yld i H x H'→g x σ H' fun σ2 H2=>tb { D with nx:=N,ct:=N,bk:=D.nx } σ2 H2):=by
  refine ⟨fun i m σ H=>m=n - i∧i≤n∧Pv i σ H,⟨n,by simp,Nat.zero_le _,h0⟩,?_⟩
  rintro i m σ H ⟨rfl,hi,p⟩
  by_cases hlt:i < n
  · refine .inr ⟨hlt,Pv (i + 1),fun σ' H' p'=>⟨n - (i + 1),by omega,rfl,hlt,p'⟩,fun x H' y=>?_⟩
    obtain ⟨e,y⟩:=y
    subst e y
    exact hs i σ _ hlt p
  · have e:i=n:=by omega
    subst e
    exact .inl ⟨Nat.le_refl _,hd σ H p⟩
end L2
namespace L2
open PySem PySem.Spec PyProof.Rows
abbrev R2:=V→V→Hp→VK→Prop
def OpR (X:Cx) (f:Value→Value→Sem Value) (r:R2):Prop :=
  ∀ (pins:List (Addr × Obj)) (s:Shared) (σ:St) (H:Hp) (x y:V) (v u:Value) (Q:VK),Inv X pins σ H s→RelV x v→RelV y u→r x y H Q →
    wpAny (model X.prog X.w) X.A (f v u) (EP X pins σ Q) X.xe s
def UnR (X:Cx) (f:Value→Sem Value) (r:V→Hp→VK→Prop):Prop :=
  ∀ (pins:List (Addr × Obj)) (s:Shared) (σ:St) (H:Hp) (x:V) (v:Value) (Q:VK),Inv X pins σ H s→RelV x v→r x H Q →
    wpAny (model X.prog X.w) X.A (f v) (EP X pins σ Q) X.xe s
def CallR (X:Cx) (f:Value) (r:List V→Hp→VK→Prop):Prop :=
  ∀ (pins:List (Addr × Obj)) (s:Shared) (σ:St) (H:Hp) (xs:List V) (us:List Value) (Q:VK),Inv X pins σ H s→Vals xs us→r xs H Q →
    wpAny (model X.prog X.w) X.A (call f us) (EP X pins σ Q) X.xe s
def TruR (X:Cx) (r:V→Hp→(Bool→Hp→Prop)→Prop):Prop :=
  ∀ (pins:List (Addr × Obj)) (s:Shared) (σ:St) (H:Hp) (x:V) (v:Value) (Q:Bool→Hp→Prop),Inv X pins σ H s→RelV x v→r x H Q →
    wpAny (model X.prog X.w) X.A (truthy v) (TP X pins σ Q) X.xe s
def tOp (r:R2) (ta tb:TE):TE:=fun σ H Q=>ta σ H fun x H1=>tb σ H1 fun y H2=>r x y H2 Q
def tUn (r:V→Hp→VK→Prop) (ta:TE):TE:=fun σ H Q=>ta σ H fun x H1=>r x H1 Q
def rI (C:Int→Int→Prop) (g:Int→Int→V):R2:=fun x y H Q=>∃ i j,x=.int i∧y=.int j∧C i j∧Q (g i j) H
def rI0 (g:Int→Int→V):R2:=fun x y H Q=>∃ i j,x=.int i∧y=.int j∧Q (g i j) H
def rU (g:Int→V):V→Hp→VK→Prop:=fun x H Q=>∃ i,x=.int i∧Q (g i) H
section
variable {X : Cx} {a b c : Expr} {ta tb tc : TE} {pos : Pos}
theorem binT (ha:PE X a ta) (hb:PE X b tb) {pins:List (Addr × Obj)} {s:Shared} {σ:St} {H:Hp} {R:V→V→Hp→Prop} (I:Inv X pins σ H s)
    (h:ta σ H fun x H1=>tb σ H1 fun y H2=>R x y H2) {Q:Value→Shared→Prop} {f:Value→Value→Sem Value}
    (hf:∀ v u s2 x y H2,Inv X pins σ H2 s2→RelV x v→RelV y u→R x y H2→wpAny (model X.prog X.w) X.A (f v u) Q X.xe s2) :
    wpAny (model X.prog X.w) X.A (eval a X.env) (fun v s₁=>wpAny (model X.prog X.w) X.A (eval b X.env) (fun u s₂=>wpAny (model X.prog X.w) X.A (f v u) Q X.xe s₂) X.xe s₁) X.xe s:=by
  refine thn (ha pins s σ H _ I h) fun v s1 ⟨x,H1,I1,r1,q1⟩=>?_
  refine thn (hb pins s1 σ H1 _ I1 q1) fun u s2 ⟨y,H2,I2,r2,q2⟩=>?_
  exact hf v u s2 x y H2 I2 r1 r2 q2
theorem pe_op {op:Operator} {r:R2} (ho:OpR X (binaryOp op) r) (ha:PE X a ta) (hb:PE X b tb):PE X (.BinOp a op b pos) (tOp r ta tb):=by
  intro pins s σ H Q I h
  exact wpAny_BinOp (binT ha hb I h fun v u s2 x y H2 I2 rx ry q=>ho pins s2 σ H2 x y v u Q I2 rx ry q)
theorem pe_un {op:UnaryOp} {r:V→Hp→VK→Prop} (ho:UnR X (unaryOp op) r) (ha:PE X a ta):PE X (.UnaryOp op a pos) (tUn r ta):=by
  intro pins s σ H Q I h
  exact UnaryOp_ (thn (ha pins s σ H _ I h) fun v s1 ⟨x,H1,I1,r1,q1⟩=>ho pins s1 σ H1 x v Q I1 r1 q1)
theorem opI {f:Value→Value→Sem Value} {C:Int→Int→Prop} {g:Int→Int→Int}
    (rule:∀ (i j:Int) (t u:Tok) (s:Shared) (Q:Value→Shared→Prop) (E:Value→Shared→Prop),C i j→Q (.int (g i j) s.toks) { s with toks:=s.toks + 1 }→wpAny (model X.prog X.w) X.A (f (.int i t) (.int j u)) Q E s) :
    OpR X f (rI C fun i j=>.int (g i j)):=by
  intro pins s σ H x y v u Q I rx ry h
  obtain ⟨i,j,rfl,rfl,hc,q⟩:=h
  obtain ⟨t,rfl⟩:=rx
  obtain ⟨t',rfl⟩:=ry
  exact rule i j t t' s _ _ hc ⟨.int (g i j),H,I.tok _,⟨_,rfl⟩,q⟩
theorem opI0 {f:Value→Value→Sem Value} {g:Int→Int→Int}
    (rule:∀ (i j:Int) (t u:Tok) (s:Shared) (Q:Value→Shared→Prop) (E:Value→Shared→Prop),Q (.int (g i j) s.toks) { s with toks:=s.toks + 1 }→wpAny (model X.prog X.w) X.A (f (.int i t) (.int j u)) Q E s) :
    OpR X f (rI0 fun i j=>.int (g i j)):=by
  intro pins s σ H x y v u Q I rx ry h
  obtain ⟨i,j,rfl,rfl,q⟩:=h
  obtain ⟨t,rfl⟩:=rx
  obtain ⟨t',rfl⟩:=ry
  exact rule i j t t' s _ _ ⟨.int (g i j),H,I.tok _,⟨_,rfl⟩,q⟩
theorem opB0 {f:Value→Value→Sem Value} {g:Int→Int→Bool}
    (rule:∀ (i j:Int) (t u:Tok) (s:Shared) (Q:Value→Shared→Prop) (E:Value→Shared→Prop),Q (.bool (g i j)) s→wpAny (model X.prog X.w) X.A (f (.int i t) (.int j u)) Q E s) :
    OpR X f (rI0 fun i j=>.bl (g i j)):=by
  intro pins s σ H x y v u Q I rx ry h
  obtain ⟨i,j,rfl,rfl,q⟩:=h
  obtain ⟨t,rfl⟩:=rx
  obtain ⟨t',rfl⟩:=ry
  exact rule i j t t' s _ _ ⟨.bl (g i j),H,I,rfl,q⟩
def CPow (i j:Int):Prop:=0≤j∧j≤1000000∧i.natAbs < 2 ^ 64
theorem two_pow_nn (k:Nat):(0:Int)≤2 ^ k:=by
  rw [two_pow_cast]
  exact Int.natCast_nonneg _
theorem op_add:OpR X (binaryOp .Add) (rI0 fun i j=>.int (i + j)):=opI0 fun _ _ _ _ _ _ _ q=>add_int q
theorem op_sub:OpR X (binaryOp .Sub) (rI0 fun i j=>.int (i - j)):=opI0 fun _ _ _ _ _ _ _ q=>sub_int q
theorem op_mod:OpR X (binaryOp .Mod) (rI (fun _ j=>0 < j) fun i j=>.int (i % j)):=opI fun i j _ _ _ _ _ hc q=>by
  have h1:(0:Int) < j:=hc
  exact mod_int' (by omega) (by rw [Int.fmod_eq_emod_of_nonneg i (by omega)]; exact q)
theorem op_pow:OpR X (binaryOp .Pow) (rI CPow fun i j=>.int (i ^ j.toNat)):=opI fun _ _ _ _ _ _ _ hc q=>pow_int_small hc.1 hc.2.1 hc.2.2 q
theorem op_shl:OpR X (binaryOp .LShift) (rI CPow fun i j=>.int (i * 2 ^ j.toNat)):=opI fun _ _ _ _ _ _ _ hc q=>lshift_int_small hc.1 hc.2.1 hc.2.2 q
theorem op_shr:OpR X (binaryOp .RShift) (rI (fun _ j=>0≤j) fun i j=>.int (i / 2 ^ j.toNat)):=opI fun i j _ _ _ _ _ hc q =>
  rshift_int hc (by rw [Int.fdiv_eq_ediv_of_nonneg i (two_pow_nn _)]; exact q)
theorem op_and:OpR X (binaryOp .BitAnd) (rI0 fun i j=>.int (Builtin.bitAnd i j)):=opI0 fun _ _ _ _ _ _ _ q=>and_int q
theorem op_or:OpR X (binaryOp .BitOr) (rI0 fun i j=>.int (Builtin.bitOr i j)):=opI0 fun _ _ _ _ _ _ _ q=>or_int q
theorem unI {f:Value→Sem Value} {g:Int→Int}
    (rule:∀ (i:Int) (t:Tok) (s:Shared) (Q:Value→Shared→Prop) (E:Value→Shared→Prop),Q (.int (g i) s.toks) { s with toks:=s.toks + 1 }→wpAny (model X.prog X.w) X.A (f (.int i t)) Q E s) :
    UnR X f (rU fun i=>.int (g i)):=by
  intro pins s σ H x v Q I rx h
  obtain ⟨i,rfl,q⟩:=h
  obtain ⟨t,rfl⟩:=rx
  exact rule i t s _ _ ⟨.int (g i),H,I.tok _,⟨_,rfl⟩,q⟩
theorem un_neg:UnR X (unaryOp .USub) (rU fun i=>.int (-i)):=unI fun _ _ _ _ _ q=>neg_int q
end
def scal:V→V→Bool
  | .non,.non=>true | .non,.int _=>true | .int _,.non=>true | .non,.bl _=>true | .bl _,.non=>true | .non,.str _=>true | .str _,.non=>true
  | .int _,.int _=>true | .bl _,.bl _=>true | .str _,.str _=>true | .byt _,.byt _=>true
  | .int _,.str _=>true | .str _,.int _=>true | .bl _,.str _=>true | .str _,.bl _=>true
  | _,_=>false
def rEq:R2:=fun x y H Q=>scal x y=true∧Q (.bl (decide (x=y))) H
def rNe:R2:=fun x y H Q=>scal x y=true∧Q (.bl (!decide (x=y))) H
theorem dec_int {i j:Int}:decide (V.int i=V.int j)=(i == j):=by
  rw [Bool.eq_iff_iff]
  simp
theorem dec_bl {i j:Bool}:decide (V.bl i=V.bl j)=(i == j):=by
  rw [Bool.eq_iff_iff]
  simp
theorem dec_str {i j:Str}:decide (V.str i=V.str j)=(i == j):=by
  rw [Bool.eq_iff_iff]
  simp
theorem dec_byt {i j:Array UInt8}:decide (V.byt i=V.byt j)=(i.toList == j.toList):=by
  rw [Bool.eq_iff_iff]
  cases i
  cases j
  simp
section
variable {X : Cx} {a b c : Expr} {ta tb tc : TE} {pos : Pos}
theorem fin_bl {pins:List (Addr × Obj)} {σ:St} {H:Hp} {s:Shared} {Q:VK} {k k':Bool} (I:Inv X pins σ H s) (q:Q (.bl k) H) (e:k=k'):EP X pins σ Q (.bool k') s:=by
  subst e
  exact ⟨.bl k,H,I,rfl,q⟩
theorem op_eq:OpR X (compareOp .Eq) rEq:=by
  intro pins s σ H x y v u Q I rx ry h
  obtain ⟨hs,q⟩:=h
  cases x with
  | non =>
    cases rx
    cases y with
    | non=>cases ry; exact PySem.EqNone.eq_none_none (fin_bl I q (by simp))
    | bl j=>cases ry; exact PySem.EqNone.eq_none_bool (fin_bl I q (by simp))
    | int j=>obtain ⟨t',rfl⟩:=ry; exact PySem.EqNone.eq_none_int (fin_bl I q (by simp))
    | str j=>obtain ⟨t',rfl⟩:=ry; exact PySem.EqNone.eq_none_str (fin_bl I q (by simp))
    | _=>exact absurd (show false=true from hs) Bool.false_ne_true
  | bl i =>
    cases rx
    cases y with
    | non=>cases ry; exact PySem.EqNone.eq_bool_none (fin_bl I q (by simp))
    | bl j=>cases ry; exact eq_bool (fin_bl I q dec_bl)
    | str j=>obtain ⟨t',rfl⟩:=ry; exact PySem.EqMixed.eq_bool_str (fin_bl I q (by simp))
    | _=>exact absurd (show false=true from hs) Bool.false_ne_true
  | int i =>
    obtain ⟨t,rfl⟩:=rx
    cases y with
    | non=>cases ry; exact PySem.EqNone.eq_int_none (fin_bl I q (by simp))
    | int j=>obtain ⟨t',rfl⟩:=ry; exact eq_int (fin_bl I q dec_int)
    | str j=>obtain ⟨t',rfl⟩:=ry; exact PySem.EqMixed.eq_int_str (fin_bl I q (by simp))
    | _=>exact absurd (show false=true from hs) Bool.false_ne_true
  | str i =>
    obtain ⟨t,rfl⟩:=rx
    cases y with
    | non=>cases ry; exact PySem.EqNone.eq_str_none (fin_bl I q (by simp))
    | bl j=>cases ry; exact PySem.EqMixed.eq_str_bool (fin_bl I q (by simp))
    | int j=>obtain ⟨t',rfl⟩:=ry; exact PySem.EqMixed.eq_str_int (fin_bl I q (by simp))
    | str j=>obtain ⟨t',rfl⟩:=ry; exact eq_str (fin_bl I q dec_str)
    | _=>exact absurd (show false=true from hs) Bool.false_ne_true
  | byt i =>
    obtain ⟨t,rfl⟩:=rx
    cases y with
    | byt j=>obtain ⟨t',rfl⟩:=ry; exact PySem.W.eq_bytes (fin_bl I q dec_byt)
    | _=>exact absurd (show false=true from hs) Bool.false_ne_true
  | _=>cases y <;> exact absurd (show false=true from hs) Bool.false_ne_true
theorem op_ne:OpR X (compareOp .NotEq) rNe:=by
  intro pins s σ H x y v u Q I rx ry h
  obtain ⟨hs,q⟩:=h
  cases x with
  | non =>
    cases rx
    cases y with
    | non=>cases ry; exact PySem.EqNone.ne_none_none (fin_bl I q (by simp))
    | bl j=>cases ry; exact PySem.EqNone.ne_none_bool (fin_bl I q (by simp))
    | int j=>obtain ⟨t',rfl⟩:=ry; exact PySem.EqNone.ne_none_int (fin_bl I q (by simp))
    | str j=>obtain ⟨t',rfl⟩:=ry; exact PySem.EqNone.ne_none_str (fin_bl I q (by simp))
    | _=>exact absurd (show false=true from hs) Bool.false_ne_true
  | bl i =>
    cases rx
    cases y with
    | non=>cases ry; exact PySem.EqNone.ne_bool_none (fin_bl I q (by simp))
    | bl j=>cases ry; exact ne_bool (fin_bl I q (congrArg not dec_bl))
    | str j=>obtain ⟨t',rfl⟩:=ry; exact PySem.EqMixed.ne_bool_str (fin_bl I q (by simp))
    | _=>exact absurd (show false=true from hs) Bool.false_ne_true
  | int i =>
    obtain ⟨t,rfl⟩:=rx
    cases y with
    | non=>cases ry; exact PySem.EqNone.ne_int_none (fin_bl I q (by simp))
    | int j=>obtain ⟨t',rfl⟩:=ry; exact ne_int (fin_bl I q (congrArg not dec_int))
    | str j=>obtain ⟨t',rfl⟩:=ry; exact PySem.EqMixed.ne_int_str (fin_bl I q (by simp))
    | _=>exact absurd (show false=true from hs) Bool.false_ne_true
  | str i =>
    obtain ⟨t,rfl⟩:=rx
    cases y with
    | non=>cases ry; exact PySem.EqNone.ne_str_none (fin_bl I q (by simp))
    | bl j=>cases ry; exact PySem.EqMixed.ne_str_bool (fin_bl I q (by simp))
    | int j=>obtain ⟨t',rfl⟩:=ry; exact PySem.EqMixed.ne_str_int (fin_bl I q (by simp))
    | str j=>obtain ⟨t',rfl⟩:=ry; exact ne_str (fin_bl I q (congrArg not dec_str))
    | _=>exact absurd (show false=true from hs) Bool.false_ne_true
  | byt i =>
    obtain ⟨t,rfl⟩:=rx
    cases y with
    | byt j=>obtain ⟨t',rfl⟩:=ry; exact PySem.W.ne_bytes (fin_bl I q (congrArg not dec_byt))
    | _=>exact absurd (show false=true from hs) Bool.false_ne_true
  | _=>cases y <;> exact absurd (show false=true from hs) Bool.false_ne_true
theorem op_lt:OpR X (compareOp .Lt) (rI0 fun i j=>.bl (decide (i < j))):=opB0 fun _ _ _ _ _ _ _ q=>lt_int q
theorem op_le:OpR X (compareOp .LtE) (rI0 fun i j=>.bl (decide (i≤j))):=opB0 fun _ _ _ _ _ _ _ q=>le_int q
theorem op_gt:OpR X (compareOp .Gt) (rI0 fun i j=>.bl (decide (j < i))):=opB0 fun _ _ _ _ _ _ _ q=>gt_int q
theorem op_ge:OpR X (compareOp .GtE) (rI0 fun i j=>.bl (decide (j≤i))):=opB0 fun _ _ _ _ _ _ _ q=>ge_int q
theorem OpR.or {f:Value→Value→Sem Value} {r r':R2} (h:OpR X f r) (h':OpR X f r'):OpR X f (fun x y H Q=>r x y H Q∨r' x y H Q):=by
  intro pins s σ H x y v u Q I rx ry q
  rcases q with q | q
  · exact h pins s σ H x y v u Q I rx ry q
  · exact h' pins s σ H x y v u Q I rx ry q
theorem nomark (b:Expr) {op:CmpOp} (h:op≠.In:=by decide) (h2:op≠.NotIn:=by decide):behindInMarks op b=false:=by
  have e1:(op == CmpOp.In)=false:=by cases op <;> first | rfl | exact absurd rfl h
  have e2:(op == CmpOp.NotIn)=false:=by cases op <;> first | rfl | exact absurd rfl h2
  cases b <;> simp [behindInMarks,e1,e2]
theorem pe_cmpR {op:CmpOp} {r:R2} (ho:OpR X (compareOp op) r) (ha:PE X a ta) (hb:PE X b tb) (hm:behindInMarks op b=false):PE X (.Compare a [op] [b] pos) (tOp r ta tb):=by
  intro pins s σ H Q I h
  exact wpAny_Compare1 (binT ha hb I h fun v u s2 x y H2 I2 rx ry q=>ho pins s2 σ H2 x y v u Q I2 rx ry q) hm
def tTest (t:TE):TT:=fun σ H Q=>t σ H fun x H'=>∃ k,x=.bl k∧Q k H'
theorem pt_cmpR {op:CmpOp} {r:R2} (ho:OpR X (compareOp op) r) (ha:PE X a ta) (hb:PE X b tb) (hm:behindInMarks op b=false):PT X (.Compare a [op] [b] pos) (tTest (tOp r ta tb)):=by
  intro pins s σ H Q I h
  refine wpAny_isTrue_Compare1 (thn (ha pins s σ H _ I h) fun v s1 ⟨x,H1,I1,r1,q1⟩=>thn (hb pins s1 σ H1 _ I1 q1) fun u s2 ⟨y,H2,I2,r2,q2⟩ =>
    thn (ho pins s2 σ H2 x y v u _ I2 r1 r2 q2) fun c s3 ⟨z,H3,I3,r3,k,e,q3⟩=>?_) hm
  subst e
  cases r3
  exact wpAny_truthy_bool ⟨H3,I3,q3⟩
def tChain (r r':R2) (ta tb tc:TE):TE:=fun σ H Q=>ta σ H fun x H1=>tb σ H1 fun y H2=>r x y H2 fun z H3=>∃ k,z=.bl k ∧
  (if k=true then tc σ H3 fun w' H4=>r' y w' H4 Q else Q (.bl false) H3)
theorem pe_chain {op op':CmpOp} {r r':R2} (ho:OpR X (compareOp op) r) (ho':OpR X (compareOp op') r') (ha:PE X a ta) (hb:PE X b tb) (hc:PE X c tc)
    (hm:lastMarks [op,op'] [b,c]=false:=by with_unfolding_all rfl):PE X (.Compare a [op,op'] [b,c] pos) (tChain r r' ta tb tc):=by
  intro pins s σ H Q I h
  refine Compare_chain (thn (ha pins s σ H _ I h) fun v s1 ⟨x,H1,I1,r1,q1⟩=>chain_link (thn (hb pins s1 σ H1 _ I1 q1) fun u s2 ⟨y,H2,I2,r2,q2⟩ =>
    thn (ho pins s2 σ H2 x y v u _ I2 r1 r2 q2) fun d s3 ⟨z,H3,I3,r3,k,e,q3⟩=>?_)) hm
  subst e
  cases r3
  refine wpAny_truthy_bool ?_
  cases k with
  | false=>exact ite_ff ⟨.bl false,H3,I3,rfl,q3⟩
  | true=>exact ite_tt (chain_last (thn (hc pins s3 σ H3 _ I3 q3) fun w' s4 ⟨z',H4,I4,r4,q4⟩=>ho' pins s4 σ H4 y z' u w' Q I4 r2 r4 q4))
theorem pt_chain {op op':CmpOp} {r r':R2} (ho:OpR X (compareOp op) r) (ho':OpR X (compareOp op') r') (ha:PE X a ta) (hb:PE X b tb) (hc:PE X c tc)
    (hm:lastMarks [op,op'] [b,c]=false:=by with_unfolding_all rfl):PT X (.Compare a [op,op'] [b,c] pos) (tTest (tChain r r' ta tb tc)):=by
  intro pins s σ H Q I h
  refine isTrue_chain (thn (ha pins s σ H _ I h) fun v s1 ⟨x,H1,I1,r1,q1⟩=>test_link (thn (hb pins s1 σ H1 _ I1 q1) fun u s2 ⟨y,H2,I2,r2,q2⟩ =>
    thn (ho pins s2 σ H2 x y v u _ I2 r1 r2 q2) fun d s3 ⟨z,H3,I3,r3,k,e,q3⟩=>?_)) hm
  subst e
  cases r3
  refine wpAny_truthy_bool ?_
  cases k with
  | false =>
    obtain ⟨k',e',q'⟩:=q3
    cases e'
    exact ite_ff ⟨H3,I3,q'⟩
  | true =>
    refine ite_tt (test_last (thn (hc pins s3 σ H3 _ I3 q3) fun w' s4 ⟨z',H4,I4,r4,q4⟩=>thn (ho' pins s4 σ H4 y z' u w' _ I4 r2 r4 q4) fun d' s5 ⟨z2,H5,I5,r5,k2,e2,q5⟩=>?_))
    subst e2
    cases r5
    exact wpAny_truthy_bool ⟨H5,I5,q5⟩
def TruV (K:PySem.W.Frag) (x:V) (H:Hp) (k:Bool):Prop :=
  match x with
  | .non=>k=false
  | .bl b=>k=b
  | .int i=>k=(i != 0)
  | .str y=>y.length≤sizeLine∧k=((y.length:Int) != 0)
  | .byt y=>y.size≤sizeLine∧k=((y.size:Int) != 0)
  | .ref p=>(∃ xs,SqL K H p xs∧k=!xs.isEmpty)∨(∃ xs,SqT K H p xs∧k=!xs.isEmpty)∨∃ kvs,H p=some (.dK kvs)∧k=!kvs.isEmpty
  | _=>False
theorem isEmpty_kv {κ:Type} {kvs:List (κ × V)} {vs:List (κ × Value)} (r:KV kvs vs):(!vs.isEmpty)=!kvs.isEmpty:=by
  cases r <;> rfl
theorem isEmpty_of {xs:List V} {its:List Value} (r:Vals xs its):(!its.toArray.isEmpty)=!xs.isEmpty:=by
  cases r <;> simp
theorem line63:(sizeLine:Nat) < 2 ^ 63:=by rw [sizeLine_eq]; decide
theorem tru_ok:TruR X (fun x H Q=>∃ k,TruV X.K x H k∧Q k H):=by
  intro pins s σ H x v Q I rx h
  obtain ⟨k,e,q⟩:=h
  have hl:=line63
  have hs:sizeLine=16777216:=sizeLine_eq
  cases x with
  | non =>
    cases rx
    have e':k=false:=e
    subst e'
    exact truthy_none ⟨H,I,q⟩
  | bl b =>
    cases rx
    have e':k=b:=e
    subst e'
    exact wpAny_truthy_bool ⟨H,I,q⟩
  | int i =>
    obtain ⟨t,rfl⟩:=rx
    have e':k=(i != 0):=e
    subst e'
    exact PySem.P.truthy_int ⟨H,I,q⟩
  | str y =>
    obtain ⟨t,rfl⟩:=rx
    obtain ⟨hy,e'⟩:y.length≤sizeLine∧k=((y.length:Int) != 0):=e
    subst e'
    exact PySem.P.truthy_str (by omega) ⟨H,I.tok _,q⟩
  | byt y =>
    obtain ⟨t,rfl⟩:=rx
    obtain ⟨hy,e'⟩:y.size≤sizeLine∧k=((y.size:Int) != 0):=e
    subst e'
    exact PySem.W.truthy_bytes (by omega) ⟨H,I.tok _,q⟩
  | ref p =>
    cases rx
    have e':(∃ xs,SqL X.K H p xs∧k=!xs.isEmpty)∨(∃ xs,SqT X.K H p xs∧k=!xs.isEmpty)∨∃ kvs,H p=some (.dK kvs)∧k=!kvs.isEmpty:=e
    rcases e' with ⟨xs,hx,e'⟩ | ⟨xs,hx,e'⟩ | ⟨kvs,hx,e'⟩
    · subst e'
      obtain ⟨its,r,pl,hz⟩:=I.list hx
      have hlen:=r.length
      exact wpAny_truthy_list pl.isList (by simp only [List.size_toArray]; omega) ⟨H,I.tok _,by rw [isEmpty_of r]; exact q⟩
    · subst e'
      obtain ⟨its,r,pl,hz⟩:=I.tuple hx
      have hlen:=r.length
      exact truthy_tuple pl (by simp only [List.size_toArray]; omega) ⟨H,I.tok _,by rw [isEmpty_of r]; exact q⟩
    · subst e'
      obtain ⟨hz,hS,vs,r,m⟩:kvs.length≤sizeLine∧(p == sysModules)=false∧∃ vs,KV kvs vs∧s.heap.DictOf (mixKind X.prog X.w) p vs:=I.hok p _ hx
      have hlen:kvs.length=vs.length:=Paired.length r
      exact wpAny_truthy_dict hS m (by omega) ⟨H,I.tok _,by rw [isEmpty_kv r]; exact q⟩
  | _=>exact (show False from e).elim
theorem pt_truth (ha:PE X a ta) (he:∀ whole,isTrue a X.env whole=(do let v ← whole; standAt a.pos; holding [v] (truthy v))) :
    PT X a (fun σ H Q=>ta σ H fun x H'=>∃ k,TruV X.K x H' k∧Q k H'):=by
  intro pins s σ H Q I h
  exact isTrue_plain (thn (ha pins s σ H _ I h) fun v s1 ⟨x,H1,I1,r1,q1⟩=>tru_ok pins s1 σ H1 x v Q I1 r1 q1) (he _)
theorem vals1 {x:V} {us:List Value} (r:Vals [x] us):∃ u,us=[u]∧RelV x u:=by
  cases r with
  | cons r1 r2=>cases r2; exact ⟨_,rfl,r1⟩
theorem vals2 {x y:V} {us:List Value} (r:Vals [x,y] us):∃ u w',us=[u,w']∧RelV x u∧RelV y w':=by
  cases r with
  | cons r1 r2 =>
    cases r2 with
    | cons r3 r4=>cases r4; exact ⟨_,_,rfl,r1,r3⟩
theorem call_max2 (hc:X.calm=true):CallR X (.builtin "max") (fun xs H Q=>∃ i j,xs=[.int i,.int j]∧Q (.int (if j > i then j else i)) H):=by
  intro pins s σ H xs us Q I r h
  obtain ⟨i,j,rfl,q⟩:=h
  obtain ⟨u,w',rfl,⟨t,rfl⟩,⟨t',rfl⟩⟩:=vals2 r
  refine max_two_ints (I.ok.hd hc) fun h' tk k=>⟨_,H,I.kept k,?_,q⟩
  by_cases hj:j > i
  · rw [if_pos hj,if_pos hj]; exact ⟨_,rfl⟩
  · rw [if_neg hj,if_neg hj]; exact ⟨_,rfl⟩
theorem call_min2 (hc:X.calm=true):CallR X (.builtin "min") (fun xs H Q=>∃ i j,xs=[.int i,.int j]∧Q (.int (if j < i then j else i)) H):=by
  intro pins s σ H xs us Q I r h
  obtain ⟨i,j,rfl,q⟩:=h
  obtain ⟨u,w',rfl,⟨t,rfl⟩,⟨t',rfl⟩⟩:=vals2 r
  refine min_two_ints (I.ok.hd hc) fun h' tk k=>⟨_,H,I.kept k,?_,q⟩
  by_cases hj:j < i
  · rw [if_pos hj,if_pos hj]; exact ⟨_,rfl⟩
  · rw [if_neg hj,if_neg hj]; exact ⟨_,rfl⟩
end
end L2
namespace L2
open PySem PySem.Spec PyProof.Rows
structure ObjM (h:Heap) (x dx C:Addr) (mA:Str→Option Value):Prop where
  obj:h.get? x=some (PySem.W.instObj C dx)
  ns:h.Ns1 dx mA
  ne:dx≠x
theorem lookIn_ns {h:Heap} {dx:Addr} {mA:Str→Option Value} (n:h.Ns1 dx mA):∃ od,h.get? dx=some od∧∀ name,PySem.W.lookIn name od=some (mA name):=by
  obtain ⟨o,es,ep,ho,hd,hk,_,hm⟩:=n
  refine ⟨o,ho,fun name=>?_⟩
  have e:=hm name
  unfold nsFind findBy at e
  rw [← Array.find?_toList] at e
  unfold PySem.W.lookIn
  rw [hd]
  dsimp only
  split
  · rename_i y q
    rw [q] at e
    exact congrArg some e
  · rename_i q
    rw [q] at e
    have a:es.toList.any (·.refKey)=false:=by
      rw [List.any_eq_false]
      intro y hy
      obtain ⟨z,t,hkey⟩:=hk y (Array.mem_toList_iff.mp hy)
      simp [DictEntry.refKey,hkey]
    have a':¬ es.toList.any (·.refKey)=true:=by rw [a]; exact Bool.false_ne_true
    rw [if_neg a']
    exact congrArg some e
theorem ObjM.look {h:Heap} {x dx C:Addr} {mA:Str→Option Value} (I:ObjM h x dx C mA):∃ od,PySem.W.InstAt h x (PySem.W.instObj C dx) C (some od)∧∀ name,PySem.W.lookIn name od=some (mA name) :=
  let ⟨od,ho,hl⟩:=lookIn_ns I.ns
  ⟨od,⟨I.obj,rfl,rfl,ho⟩,hl⟩
section
variable {prog : Program} {w : World} {A : Around} {E : Value → Shared → Prop} {s : Shared} {K : PySem.W.Frag} {x dx C f : Addr} {mA : Str → Option Value} {name : Str} {v : Value}
theorem get_map {expr:Bool} {Q:Value→Shared→Prop} (X:K.In s.heap) (I:ObjM s.heap x dx C mA) (hg:PySem.W.plainGet K C name=true) (hh:PySem.W.hasDictIn K C=true)
    (ha:PySem.W.findIn K (.ref C) name=some none) (hv:mA name=some v) (hv':PySem.W.handedIn v=true) (h:Q v { s with toks:=s.toks + 1 }) :
    wpAny (model prog w) A (getAttr (.ref x) name expr) Q E s:=by
  obtain ⟨od,J,hl⟩:=I.look
  exact PySem.W.get_value X J (PySem.W.plainGet_of hg).1 (PySem.W.findObj_own hh ha rfl (by rw [hl,hv])) hv' h
theorem get_meth {pl:Sem Bool} {Q:Value × List Value→Shared→Prop} (X:K.In s.heap) (I:ObjM s.heap x dx C mA) (hg:PySem.W.plainGet K C name=true)
    (hf:PySem.W.findIn K (.ref C) name=some (some (.ref f))) (ht:PySem.W.isFn K (.ref f)=true) (hv:mA name=none) (h:Q (.ref f,[.ref x]) s) :
    wpAny (model prog w) A (getMethod (.ref x) name pl) Q E s:=by
  obtain ⟨od,J,hl⟩:=I.look
  exact PySem.W.method_fn X J (PySem.W.plainGet_of hg).1 (PySem.W.plainGet_of hg).2 hf (beq_iff_eq.mp ht) (by show (PySem.W.lookIn name od).map (·.isSome)=some false; rw [hl,hv]; rfl) h
theorem set_map {ns:List Str} {Q:Unit→Shared→Prop} (X:K.In s.heap) (I:ObjM s.heap x dx C mA)
    (hs:PySem.W.findIn K (.ref C) "__setattr__"=some (some (.builtin "object.__setattr__"))) (hp:PySem.W.plainOver K C=true) (ht:PySem.W.takerIn K C name=some none) (hh:PySem.W.hasDictIn K C=true)
    (hw:PySem.Within mA ns) (hsz:ns.length≤sizeLine)
    (h:∀ h',ObjM h' x dx C (fun y=>if y=name then some v else mA y)→Heap.SameBut dx s.heap h'→Q () { s with heap:=h',toks:=s.toks + 2 }) :
    wpAny (model prog w) A (setAttr (.ref x) name v) Q E s:=by
  obtain ⟨od,J,hl⟩:=I.look
  refine PySem.W.set_plain X J hs (PySem.W.osa_open (s:={ s with toks:=s.toks + 1 }) (r:=none) X J hp ht fun b=>?_)
  obtain ⟨cd,hc,hd'⟩:=PySem.W.any_some hh
  have hx:s.heap.get? x=some ⟨.ref C,some dx,.plain,#[]⟩:=I.obj
  refine wpAny_bind (wpAny_pure (wpAny_bind (wpAny_bind (wpAny_loadPart hx (wpAny_bind (PySem.W.Looks.here (s:={ s with toks:=s.toks + 1 }) (PySem.W.looks_clsIn X hc) ?_))))))
  rw [hd']
  refine wpAny_pure (a:=some dx) (wpAny_bind (wpAny_pure (wpAny_bind ?_)))
  refine wpAny_nsSet1 (s:={ s with toks:=s.toks + 1 }) I.ns fun h' hn2 hs2=>?_
  obtain ⟨oD,esD,epD,hoD,hdD,hcD⟩:=hn2.count (PySem.Within.cons name v hw)
  refine wpAny_bind (wpAny_lookBehind hoD (by rw [hdD]; exact pastItsLine_dict (Nat.le_trans hcD (by rw [List.length_cons]; omega))) ?_)
  exact wpAny_pure (h _ ⟨(hs2.2 _ (Ne.symm I.ne)).trans I.obj,hn2,I.ne⟩ hs2)
theorem make_map {R:Result→Shared→Prop} {vs:List Value} {kw:List (Str × Value)} (X:K.In s.heap) (hm:PySem.W.makesIn K C=true)
    (hi:PySem.W.findIn K (.ref C) "__init__"=some (some (.ref f))) (hf:PySem.W.typeIn K (.ref f)=some (.type "function"))
    (h:codeAny (model prog w) (A.under (.builtin "type.__call__" ⟨.ref C :: vs,kw⟩)) (.call (.ref f) ⟨.ref (s.heap.objs.size + 1) :: vs,kw⟩) (PySem.W.InitBack (s.heap.objs.size + 1) R)
      { s with heap:=(s.heap.push PySem.W.emptyDict).push (PySem.W.instObj C s.heap.objs.size) }) :
    codeAny (model prog w) A (.call (.ref C) ⟨vs,kw⟩) R s:=by
  obtain ⟨hh,g,d,t,os⟩:=s
  exact PySem.W.make_core (PySem.W.makes_of X hm) (PySem.W.looks_findIn X hi) (fun self=>PySem.W.bind_fn X self hf) (.inl rfl) h
theorem make_map0 {R:Result→Shared→Prop} (X:K.In s.heap) (hm:PySem.W.makesIn K C=true)
    (hi:PySem.W.findIn K (.ref C) "__init__"=some (some (.builtin "object.__init__")))
    (hb:∀ self,PySem.W.Looks (model prog w) s.heap (bindSpecial (.builtin "object.__init__") self) (.builtin "object.__init__",[self]))
    (h:codeAny (model prog w) (A.under (.builtin "type.__call__" ⟨[.ref C],[]⟩)) (.call (.builtin "object.__init__") ⟨[.ref (s.heap.objs.size + 1)],[]⟩) (PySem.W.InitBack (s.heap.objs.size + 1) R)
      { s with heap:=(s.heap.push PySem.W.emptyDict).push (PySem.W.instObj C s.heap.objs.size) }) :
    codeAny (model prog w) A (.call (.ref C) ⟨[],[]⟩) R s:=by
  obtain ⟨hh,g,d,t,os⟩:=s
  exact PySem.W.make_core (PySem.W.makes_of X hm) (PySem.W.looks_findIn X hi) hb (.inr ⟨rfl,rfl⟩) h
end
def putF (f:Str) (v:V):List (Str × V)→List (Str × V)
  | []=>[(f,v)]
  | (g,x) :: r=>if g=f then (g,v) :: r else (g,x) :: putF f v r
theorem lookup_putF (f g:Str) (v:V):∀ fs:List (Str × V),(putF f v fs).lookup g=if g=f then some v else fs.lookup g
  | []=>by
    show List.lookup g [(f,v)]=_
    by_cases h:g=f
    · have hb:(g == f)=true:=beq_iff_eq.mpr h
      simp only [List.lookup,hb,if_pos h]
    · have hb:(g == f)=false:=beq_eq_false_iff_ne.mpr h
      simp only [List.lookup,hb,if_neg h]
  | (k,x) :: r=>by
    have ih:=lookup_putF f g v r
    rw [show putF f v ((k,x) :: r)=(if k=f then (k,v) :: r else (k,x) :: putF f v r) from rfl]
    by_cases hk:k=f
    · rw [if_pos hk]
      by_cases h:g=k
      · have hb:(g == k)=true:=beq_iff_eq.mpr h
        simp only [List.lookup,hb,if_pos (h.trans hk)]
      · have hb:(g == k)=false:=beq_eq_false_iff_ne.mpr h
        simp only [List.lookup,hb,if_neg (fun e:g=f=>h (e.trans hk.symm))]
    · rw [if_neg hk]
      by_cases h:g=k
      · have hb:(g == k)=true:=beq_iff_eq.mpr h
        simp only [List.lookup,hb,if_neg (fun e:g=f=>hk (h.symm.trans e))]
      · have hb:(g == k)=false:=beq_eq_false_iff_ne.mpr h
        simp only [List.lookup,hb]
        exact ih
theorem keys_putF (f:Str) (v:V):∀ fs:List (Str × V),f∈(putF f v fs).map (·.1)∧∀ g,g∈fs.map (·.1)→g∈(putF f v fs).map (·.1)
  | []=>⟨by simp [putF],fun g h=>by simp at h⟩
  | (k,x) :: r=>by
    obtain ⟨i1,i2⟩:=keys_putF f v r
    rw [show putF f v ((k,x) :: r)=(if k=f then (k,v) :: r else (k,x) :: putF f v r) from rfl]
    by_cases hk:k=f
    · rw [if_pos hk]
      subst hk
      exact ⟨by simp,fun g h=>by simpa using h⟩
    · rw [if_neg hk]
      refine ⟨?_,fun g h=>?_⟩
      · rw [List.map_cons]
        exact List.mem_cons_of_mem _ i1
      · rw [List.map_cons] at h ⊢
        rcases List.mem_cons.mp h with e | e
        · exact List.mem_cons.mpr (.inl e)
        · exact List.mem_cons_of_mem _ (i2 g e)
theorem length_putF (f:Str) (v:V):∀ fs:List (Str × V),(putF f v fs).length≤fs.length + 1
  | []=>by simp [putF]
  | (k,x) :: r=>by
    have ih:=length_putF f v r
    rw [show putF f v ((k,x) :: r)=(if k=f then (k,v) :: r else (k,x) :: putF f v r) from rfl]
    by_cases hk:k=f
    · rw [if_pos hk,List.length_cons,List.length_cons]; omega
    · rw [if_neg hk,List.length_cons,List.length_cons]; omega
theorem RelO.some_of {v:V} {o:Option Value} (r:RelO (some v) o):∃ u,o=some u∧RelV v u:=by
  cases o with
  | none=>exact (show False from r).elim
  | some u=>exact ⟨u,rfl,r⟩
theorem RelO.none_of {o:Option Value} (r:RelO none o):o=none:=by
  cases o with
  | none=>rfl
  | some u=>exact (show False from r).elim
theorem handed_of {v:V} {u:Value} (r:RelV v u):PySem.W.handedIn u=true:=by
  cases v with
  | non=>cases (show u=Value.none from r); rfl
  | bl b=>cases (show u=Value.bool b from r); rfl
  | int i=>obtain ⟨t,e⟩:=(show ∃ t,u=Value.int i t from r); cases e; rfl
  | str x=>obtain ⟨t,e⟩:=(show ∃ t,u=Value.str x t from r); cases e; rfl
  | byt b=>obtain ⟨t,e⟩:=(show ∃ t,u=Value.bytes b t from r); cases e; rfl
  | flt b=>obtain ⟨t,e⟩:=(show ∃ t,u=Value.float b t from r); cases e; rfl
  | ref a=>cases (show u=Value.ref a from r); rfl
  | ty n=>cases (show u=Value.type n from r); rfl
section
variable {P : Program} {w : World} {H H' : Hp} {h h' : Heap} {a C dx : Addr} {fs fs' : List (Str × V)}
theorem ins_get (hok:HOk P w H h) (e:H a=some (.ins C dx fs)):∃ mA,ObjM h a dx C mA∧(∀ f,RelO (fs.lookup f) (mA f))∧PySem.Within mA (fs.map (·.1))∧fs.length≤1000∧H dx=some (.own a):=by
  obtain ⟨d,z,ne,ob,mA,n,r,q⟩:=(show ObjOk P w H h a (.ins C dx fs) from hok a _ e)
  exact ⟨mA,⟨ob,n,ne⟩,r,q,z,d⟩
end
structure Cls (K:PySem.W.Frag) (C:Addr):Prop where
  pg:PySem.W.plainGet K C Str.empty=true
  hd:PySem.W.hasDictIn K C=true
  po:PySem.W.plainOver K C=true
  sa:PySem.W.findIn K (.ref C) "__setattr__"=some (some (.builtin "object.__setattr__"))
theorem Cls.get {K:PySem.W.Frag} {C:Addr} (c:Cls K C) (f:Str):PySem.W.plainGet K C f=true:=c.pg
def NoAttr (K:PySem.W.Frag) (C:Addr) (f:Str):Prop:=PySem.W.findIn K (.ref C) f=some none
theorem NoAttr.taker {K:PySem.W.Frag} {C:Addr} {f:Str} (n:NoAttr K C f):PySem.W.takerIn K C f=some none:=by
  unfold PySem.W.takerIn
  rw [show PySem.W.findIn K (.ref C) f=some none from n]
  rfl
structure Con (K:PySem.W.Frag) (C:Addr) (f:Str) (v:V) (u:Value):Prop where
  at_:PySem.W.findIn K (.ref C) f=some (some u)
  rel:RelV v u
  get:PySem.W.specialIn K u "__get__"=some none
  cp:PySem.W.copiedNames.contains f=false
structure Meth (K:PySem.W.Frag) (C:Addr) (m:Str) (f:Addr):Prop where
  at_:PySem.W.findIn K (.ref C) m=some (some (.ref f))
  fn:PySem.W.isFn K (.ref f)=true
  kp:PySem.W.keepIn K (.ref f)=true
section
variable {X : Cx} {pins : List (Addr × Obj)} {σ : St} {H : Hp} {s : Shared} {a C dx : Addr} {fs : List (Str × V)} {f : Str} {v : V} {A : Around} {E : Value → Shared → Prop}
theorem getattr_ok {b:Bool} {Q:Value→Shared→Prop} (I:Inv X pins σ H s) (e:H a=some (.ins C dx fs)) (c:Cls X.K C) (n:NoAttr X.K C f) (l:fs.lookup f=some v)
    (h:∀ u s',Inv X pins σ H s'→RelV v u→Q u s'):wpAny (model X.prog X.w) A (getAttr (.ref a) f b) Q E s:=by
  obtain ⟨mA,O,r,_,_,_⟩:=ins_get I.hok e
  obtain ⟨u,hu,ru⟩:=RelO.some_of (v:=v) (o:=mA f) (by rw [← l]; exact r f)
  exact get_map I.kIn O (c.get f) c.hd n hu (handed_of ru) (h u _ (I.tok _) ru)
theorem getmeth_ok {m:Str} {g:Addr} {pl:Sem Bool} {Q:Value × List Value→Shared→Prop} (I:Inv X pins σ H s) (e:H a=some (.ins C dx fs)) (c:Cls X.K C) (k:Meth X.K C m g) (l:fs.lookup m=none)
    (h:Q (.ref g,[.ref a]) s):wpAny (model X.prog X.w) A (getMethod (.ref a) m pl) Q E s:=by
  obtain ⟨mA,O,r,_,_,_⟩:=ins_get I.hok e
  have hn:mA m=none:=RelO.none_of (by rw [← l]; exact r m)
  exact get_meth I.kIn O (c.get m) k.at_ k.fn hn h
theorem setattr_ok {y:V} {u:Value} {Q:Unit→Shared→Prop} (I:Inv X pins σ H s) (e:H a=some (.ins C dx fs)) (c:Cls X.K C) (n:NoAttr X.K C f) (hl:fs.length < 1000) (ry:RelV y u)
    (h:∀ s',Inv X pins σ (upd H a (.ins C dx (putF f y fs))) s'→Q () s'):wpAny (model X.prog X.w) A (setAttr (.ref a) f u) Q E s:=by
  obtain ⟨mA,O,r,wi,_,ho⟩:=ins_get I.hok e
  have hz:(fs.map (·.1)).length≤sizeLine:=by rw [List.length_map,sizeLine_eq]; omega
  refine set_map I.kIn O c.sa c.po n.taker c.hd wi hz fun h' O' sb=>h _ ?_
  have hd:∃ o,h'.get? dx=some o:=let ⟨o,_,_,e',_⟩:=O'.ns; ⟨o,e'⟩
  refine I.write (x:=a) (e:=dx) (by rw [e]; exact True.intro) (.inr ho) (fun b q hb z=>(sb.2 b hb).trans z) hd ?_
  refine ⟨by rw [upd_ne O.ne]; exact ho,?_,O.ne,O'.obj,_,O'.ns,fun g=>?_,fun g hg=>?_⟩
  · have:=length_putF f y fs; omega
  · show RelO ((putF f y fs).lookup g) (if g=f then some u else mA g)
    rw [lookup_putF]
    by_cases q:g=f
    · rw [if_pos q,if_pos q]; exact ry
    · rw [if_neg q,if_neg q]; exact r g
  · by_cases q:g=f
    · rw [q]; exact (keys_putF f y fs).1
    · refine (keys_putF f y fs).2 g (wi g fun z=>hg ?_)
      show (if g=f then some u else mA g)=none
      rw [if_neg q]; exact z
theorem Inv.made (I:Inv X pins σ H s):Inv X pins σ (upd (upd H s.heap.objs.size (.own (s.heap.objs.size + 1))) (s.heap.objs.size + 1) (.ins C s.heap.objs.size []))
    { s with heap:=(s.heap.push PySem.W.emptyDict).push (PySem.W.instObj C s.heap.objs.size) }:=by
  have e1:(s.heap.push PySem.W.emptyDict).get? s.heap.objs.size=some PySem.W.emptyDict:=Heap.get?_push_size s.heap rfl
  have e2:((s.heap.push PySem.W.emptyDict).push (PySem.W.instObj C s.heap.objs.size)).get? (s.heap.objs.size + 1)=some (PySem.W.instObj C s.heap.objs.size):=by
    have:=Heap.get?_push_size (s.heap.push PySem.W.emptyDict) (o:=PySem.W.instObj C s.heap.objs.size) rfl
    rwa [Heap.size_push] at this
  have e3:(s.heap.push PySem.W.emptyDict).Ns s.heap.objs.size (fun _=>none):=⟨PySem.W.emptyDict,#[],_,e1,rfl,(fun e he=>absurd he (by simp)),fun _=>rfl⟩
  have I1:=I.laid (a:=s.heap.objs.size) (o:=.own (s.heap.objs.size + 1)) (h':=s.heap.push PySem.W.emptyDict) (t':=s.toks) (fun b u q=>Heap.get?_push_of_some _ q) (Nat.le_refl _) ⟨_,e1⟩
  refine I1.laid (a:=s.heap.objs.size + 1) (o:=.ins C s.heap.objs.size []) (t':=s.toks) (fun b u q=>Heap.get?_push_of_some _ q) (Nat.le_of_eq (Heap.size_push _ _)) ?_
  have ne:s.heap.objs.size≠s.heap.objs.size + 1:=Nat.ne_of_lt (Nat.lt_succ_self _)
  refine ⟨by rw [upd_ne ne,upd_same],Nat.zero_le _,ne,e2,fun _=>none,(Heap.Ns1.of_empty e3).at fun o q=>Heap.get?_push_of_some _ q,fun _=>True.intro,fun y hy=>absurd rfl hy⟩
theorem attr_of {prog:Program} {w:World} {env:Env} {e:Expr} {f:Str} {pos:Pos} {s:Shared} {Q:Value→Shared→Prop} (hb:attributeBase e f env (eval e env)=eval e env)
    (h:wpAny (model prog w) A (eval e env) (fun o s₁=>wpAny (model prog w) A (getAttr o f true) Q E s₁) E s):wpAny (model prog w) A (eval (.Attribute e f pos) env) Q E s :=
  Attribute_any_ h (by rw [arm_eval_Attribute,hb])
end
def tFld (K:PySem.W.Frag) (ta:TE) (f:Str):TE:=fun σ H Q=>ta σ H fun x H1=>∃ a C dx fs v,x=.ref a∧H1 a=some (.ins C dx fs)∧Cls K C∧NoAttr K C f∧fs.lookup f=some v∧Q v H1
def sFld (K:PySem.W.Frag) (ta tv:TE) (f:Str):TS:=fun D σ H=>tv σ H fun y H1=>ta σ H1 fun x H2=>∃ a C dx fs,x=.ref a∧H2 a=some (.ins C dx fs)∧Cls K C∧NoAttr K C f∧fs.length < 1000 ∧
  D.nx σ (upd H2 a (.ins C dx (putF f y fs)))
section
variable {X : Cx} {o e value : Expr} {f : Str} {pos pos' tpos : Pos} {ta tv : TE}
theorem pe_fld (he:PE X e ta) (hb:attributeBase e f X.env (eval e X.env)=eval e X.env):PE X (.Attribute e f pos) (tFld X.K ta f):=by
  intro pins s σ H Q I h
  refine attr_of hb (thn (he pins s σ H _ I h) fun u s1 ⟨x,H1,I1,rx,a,C,dx,fs,v,ex,ea,c,n,l,q⟩=>?_)
  subst ex
  obtain rfl:u=Value.ref a:=rx
  exact getattr_ok I1 ea c n l fun u' s2 I2 ru=>⟨v,H1,I2,ru,q⟩
theorem ps_fld (ha:PE X o ta) (hv:PE X value tv) (hs:swapsWith value (some (.Attribute o f pos')) pos.line X.env=pure false):PS X (.Assign [.Attribute o f pos'] value pos) (sFld X.K ta tv f):=by
  intro pins s σ H D I h
  refine plainObj_wpAny_Assign_Attribute (thn (hv pins s σ H _ I h) fun u s1 ⟨y,H1,I1,ry,q⟩=>thn (ha pins s1 σ H1 _ I1 q) fun ov s2 ⟨x,H2,I2,rx,a,C,dx,fs,ex,ea,c,n,l,q2⟩=>?_) hs
  subst ex
  obtain rfl:ov=Value.ref a:=rx
  exact setattr_ok I2 ea c n l ry fun s3 I3=>⟨σ,_,I3,q2⟩
end
section
variable {X : Cx} {pins : List (Addr × Obj)} {σ : St} {H : Hp} {s : Shared} {A : Around} {E : Value → Shared → Prop} {Q : Value → Shared → Prop} {c : Value} {b : Bool}
inductive TyOf (K:PySem.W.Frag) (H:Hp):V→Value→Prop where
  | non:TyOf K H .non (.type "NoneType")
  | bl (x:Bool):TyOf K H (.bl x) (.type "bool")
  | int (i:Int):TyOf K H (.int i) (.type "int")
  | str (x:Str):TyOf K H (.str x) (.type "str")
  | flt (x:UInt64):TyOf K H (.flt x) (.type "float")
  | lst {a:Addr} {xs:List V} (e:H a=some (.lst xs)):TyOf K H (.ref a) (.type "list")
  | frz {a:Addr} {o:Obj} {xs:List V} (e:H a=some (.frz o (.lst xs))):TyOf K H (.ref a) (.type "list")
  | tup {a:Addr} {xs:List V} (e:H a=some (.tup xs)):TyOf K H (.ref a) (.type "tuple")
  | dK {a:Addr} {kvs:List (Key × V)} (e:H a=some (.dK kvs)):TyOf K H (.ref a) (.type "dict")
  | dT {a:Addr} {kvs:List (List Key × V)} (e:H a=some (.dT kvs)):TyOf K H (.ref a) (.type "dict")
  | ins {a C dx:Addr} {fs:List (Str × V)} (e:H a=some (.ins C dx fs)) (cl:Cls K C) (ha:PySem.W.findIn K (.ref C) "__class__"=some (some (.builtin "object.__class__")))
      (hn:PySem.W.specialIn K (.builtin "object.__class__") "__get__"=some (some (.builtin "getset_descriptor.__get__"))) (htk:PySem.W.takesIn K (.builtin "object.__class__")=some true)
      (hm:PySem.W.mroIn K C (.type "object")=some true):TyOf K H (.ref a) (.ref C)
theorem isinst_ok {x:V} {u t:Value} (I:Inv X pins σ H s) (rx:RelV x u) (ty:TyOf X.K H x t) (e:PySem.W.kitOne X.K t c=some b) (h:∀ tk,Q (.bool b) { s with toks:=tk }) :
    wpAny (model X.prog X.w) A (call (.builtin "isinstance") [u,c]) Q E s:=by
  cases ty with
  | non=>cases (show u=Value.none from rx); exact PySem.W.kia_one PySem.W.kitx_none I.kIn True.intro e (fun z=>nomatch z) h
  | bl y=>cases (show u=Value.bool y from rx); exact PySem.W.kia_one PySem.W.kitx_bool I.kIn True.intro e (fun z=>nomatch z) h
  | int i=>obtain ⟨t,q⟩:=(show ∃ t,u=Value.int i t from rx); cases q; exact PySem.W.kia_one PySem.W.kitx_int I.kIn True.intro e (fun z=>nomatch z) h
  | str y=>obtain ⟨t,q⟩:=(show ∃ t,u=Value.str y t from rx); cases q; exact PySem.W.kia_one PySem.W.kitx_str I.kIn True.intro e (fun z=>nomatch z) h
  | flt y=>obtain ⟨t,q⟩:=(show ∃ t,u=Value.float y t from rx); cases q; exact PySem.W.kia_one PySem.W.kitx_float I.kIn True.intro e (fun z=>nomatch z) h
  | @lst a xs ea =>
    cases (show u=Value.ref a from rx)
    obtain ⟨_,_,n,_,h1⟩:=(show ObjOk X.prog X.w H s.heap a (.lst xs) from I.hok a _ ea)
    exact PySem.W.kia_one PySem.W.kitx_list I.kIn ⟨_,h1,rfl⟩ e (fun z=>nomatch z) h
  | @frz a ob xs ea =>
    cases (show u=Value.ref a from rx)
    obtain ⟨_,_,_,n,_,h1⟩:=(show ObjOk X.prog X.w H s.heap a (.frz ob (.lst xs)) from I.hok a _ ea)
    exact PySem.W.kia_one PySem.W.kitx_list I.kIn ⟨_,h1,rfl⟩ e (fun z=>nomatch z) h
  | @tup a xs ea =>
    cases (show u=Value.ref a from rx)
    obtain ⟨_,_,_,p⟩:=(show ObjOk X.prog X.w H s.heap a (.tup xs) from I.hok a _ ea)
    obtain ⟨o,h1,h2,_⟩:=p
    exact PySem.W.kia_one PySem.W.kitx_tuple I.kIn ⟨o,h1,h2⟩ e (fun z=>nomatch z) h
  | @dK a kvs ea =>
    cases (show u=Value.ref a from rx)
    obtain ⟨_,_,vs,_,p⟩:=(show ObjOk X.prog X.w H s.heap a (.dK kvs) from I.hok a _ ea)
    obtain ⟨o,es,ep,h1,h2,_⟩:=p
    exact PySem.W.kia_one PySem.W.kitx_dict I.kIn ⟨o,h1,h2.1⟩ e (fun z=>nomatch z) h
  | @dT a kvs ea =>
    cases (show u=Value.ref a from rx)
    obtain ⟨_,_,xs,_,o,es,ep,h1,h2,_⟩:=(show ObjOk X.prog X.w H s.heap a (.dT kvs) from I.hok a _ ea)
    exact PySem.W.kia_one PySem.W.kitx_dict I.kIn ⟨o,h1,h2.1⟩ e (fun z=>nomatch z) h
  | @ins a C dx fs ea cl ha hn htk hm =>
    cases (show u=Value.ref a from rx)
    obtain ⟨mA,O,_⟩:=ins_get I.hok ea
    obtain ⟨od,J,_⟩:=O.look
    exact PySem.W.kia_one (PySem.W.kitx_own (cl.get _) cl.hd ha hn htk hm) I.kIn J e (fun z=>nomatch z) h
end
end L2
namespace L2
open PySem PySem.Spec PyProof.Rows
structure Room (k:Nat) (A:Around):Prop where
  hd:A.handled=none
  dp:A.depth + 3 * k + 5 < recursionLimit
  un:A.units + 16 * k + 200 < cLine
  gd:A.guards=some []
theorem Room.mono {j k:Nat} {A:Around} (r:Room k A) (h:j≤k):Room j A:=⟨r.hd,by have:=r.dp; omega,by have:=r.un; omega,r.gd⟩
theorem Room.deeper {k:Nat} {A:Around} (r:Room (k + 1) A) (env:Env):Room k (A.deeper env) :=
  ⟨r.hd,by have:=r.dp; show A.depth + 1 + 3 * k + 5 < _; omega,by have:=r.un; show A.units + 3 + 16 * k + 200 < _; omega,r.gd⟩
theorem Room.in1 {k:Nat} {A:Around} (r:Room (k + 1) A):Room k A.in1 :=
  ⟨r.hd,by have:=r.dp; show A.depth + 3 * k + 5 < _; omega,by have:=r.un; show A.units + 1 + 16 * k + 200 < _; omega,r.gd⟩
theorem make_depth {A:Around} {C:Addr} {us:List Value} {kw:List (Str × Value)}:(A.under (.builtin "type.__call__" ⟨.ref C :: us,kw⟩)).depth=A.depth + 1:=by
  first | rfl | simp [Around.under,Code.weight,Code.isCreation,Code.isGuard,Code.isCaller,Code.frames,Code.isFrame,guardIds]
theorem make_units {A:Around} {C:Addr} {us:List Value} {kw:List (Str × Value)}:(A.under (.builtin "type.__call__" ⟨.ref C :: us,kw⟩)).units=A.units + 1:=by
  first | rfl | simp [Around.under,Code.cUnits,Code.frames,Code.isFrame]
theorem make_guards {A:Around} {C:Addr} {us:List Value} {kw:List (Str × Value)} (h:A.guards=some []):(A.under (.builtin "type.__call__" ⟨.ref C :: us,kw⟩)).guards=some []:=by
  have e:(Code.builtin "type.__call__" ⟨.ref C :: us,kw⟩).guards=[]:=by first | rfl | simp [Code.guards,Code.isGuard,guardIds]
  show pushGuards (Code.builtin "type.__call__" ⟨.ref C :: us,kw⟩).guards A.guards=some []
  rw [e,h]; rfl
theorem Room.make {k:Nat} {A:Around} (r:Room (k + 1) A) (C:Addr) (us:List Value) (kw:List (Str × Value)):Room k (A.under (.builtin "type.__call__" ⟨.ref C :: us,kw⟩)) :=
  ⟨r.hd,by have:=r.dp; rw [make_depth]; omega,by have:=r.un; rw [make_units]; omega,make_guards r.gd⟩
theorem Room.depth {k:Nat} {A:Around} (r:Room k A):A.depth < recursionLimit:=by have:=r.dp; omega
theorem Room.units {k:Nat} {A:Around} (r:Room k A):A.units + 64 < cLine:=by have:=r.un; omega
theorem Room.units0 {k:Nat} {A:Around} (r:Room k A):A.units < cLine:=by have:=r.un; omega
def tNil:TA:=fun _ H Q=>Q [] H
def tCons (ta:TE) (tr:TA):TA:=fun σ H Q=>ta σ H fun x H1=>tr σ H1 fun xs H2=>Q (x :: xs) H2
section
variable {X : Cx} {e : Expr} {es : List Expr} {te : TE} {t : TA} {pos : Pos}
theorem pa_nil:PA X [] tNil:=fun _ _ _ _ H Q I h=>Calls.spliced_nil ⟨[],H,I,.nil,h⟩
theorem pa_cons (ha:PE X e te) (hr:PA X es t) (hs:starEach (e :: es) X.env=(false,eval e X.env) :: starEach es X.env:=by rfl):PA X (e :: es) (tCons te t):=by
  intro pos pins s σ H Q I h
  rw [hs]
  show wpAny _ _ (spliced ((false,eval e X.env) :: backTo pos (starEach es X.env))) _ _ s
  refine Calls.spliced_cons (thn (ha pins s σ H _ I h) fun u s1 ⟨x,H1,I1,r1,q1⟩=>?_)
  exact thn (hr pos pins s1 σ H1 _ I1 q1) fun us s2 ⟨xs,H2,I2,r2,q2⟩=>⟨x :: xs,H2,I2,.cons r1 r2,q2⟩
def tTup (t:TA):TE:=fun σ H Q=>t σ H fun xs H1=>xs.length≤sizeLine∧∀ p,H1 p=none→Q (.ref p) (upd H1 p (.tup xs))
def tLst (t:TA):TE:=fun σ H Q=>t σ H fun xs H1=>xs.length≤sizeLine∧∀ p,H1 p=none→Q (.ref p) (upd H1 p (.lst xs))
theorem pe_tup {x1} (h:PA X es t):PE X (.Tuple es x1 pos) (tTup t):=by
  intro pins s σ H Q I hq
  refine wpAny_Tuple_spliced (thn (h pos pins s σ H _ I hq) fun us s1 ⟨xs,H1,I1,r,z,q⟩=>⟨by rw [← r.length]; exact z,?_⟩)
  have hf:H1 s1.heap.objs.size=none:=I1.hok.fresh (Nat.le_refl _)
  refine ⟨.ref s1.heap.objs.size,upd H1 s1.heap.objs.size (.tup xs),I1.laid (t':=s1.toks) (fun b u e=>Heap.get?_push_of_some _ e) (Nat.le_refl _) ?_,rfl,q _ hf⟩
  exact ⟨z,us,r,⟨_,Heap.get?_push_size _ rfl,rfl,_,rfl⟩⟩
theorem pe_lst (h:PA X es t):PE X (.List es pos) (tLst t):=by
  intro pins s σ H Q I hq
  refine wpAny_List_spliced (thn (h pos pins s σ H _ I hq) fun us s1 ⟨xs,H1,I1,r,z,q⟩=>⟨by rw [← r.length]; exact z,?_⟩)
  have hf:H1 s1.heap.objs.size=none:=I1.hok.fresh (Nat.le_refl _)
  refine ⟨.ref s1.heap.objs.size,upd H1 s1.heap.objs.size (.lst xs),I1.laid (t':=s1.toks) (fun b u e=>Heap.get?_push_of_some _ e) (Nat.le_refl _) ?_,rfl,q _ hf⟩
  exact ⟨z,us,0,r,Heap.get?_push_size _ rfl⟩
end
abbrev Sp:=List V→Hp→VK→XK→Prop
abbrev CXT:=List Env→Hp→Shared→XK→Value→Shared→Prop
structure Env0 (P:Program) (w:World) (K:PySem.W.Frag) (mg:Str→Option Value) (base:Heap) (A:Around) (outer:List Env) (s:Shared) (H:Hp):Prop where
  frames:A.frames=some outer
  mod:Mod K mg base
  bs:∀ b o,base.get? b=some o→s.heap.get? b=some o∧H b=none
  bsz:base.objs.size≤s.heap.objs.size
  funs:s.heap.FunFrames base outer
  frf:∀ b∈frs outer,H b=none
  hok:HOk P w H s.heap
  bare:AllBare s.gens
def CE (outer:List Env) (P:Program) (w:World) (H:Hp) (s:Shared) (Q:VK) (u:Value) (s':Shared):Prop :=
  ∃ v H',s'.os=s.os∧AllBare s'.gens∧Un (frs outer) [] H H' s.heap s'.heap∧HOk P w H' s'.heap∧RelV v u∧Q v H'
def CR (CX:CXT) (outer:List Env) (P:Program) (w:World) (H:Hp) (s:Shared) (Q:VK) (E:XK) (r:Result) (s':Shared):Prop :=
  match r with
  | .ok (.ret u)=>CE outer P w H s Q u s'
  | .ok _=>False
  | .error e=>CX outer H s E e s'
structure FnOk (P:Program) (w:World) (K:PySem.W.Frag) (mg:Str→Option Value) (base:Heap) (CX:CXT) (k:Nat) (f:Addr) (fd:FuncData) (ps:List Str) (sp:Sp):Prop where
  len:∀ vs H Q E,sp vs H Q E→vs.length=ps.length
  run:∀ (A:Around) (outer:List Env) (s:Shared) (H:Hp) (args:Args) (us:List Value) (vs:List V) (Q:VK) (E:XK),Room k A→Env0 P w K mg base A outer s H→BindsTo s fd args (ps.zip us)→Vals vs us→sp vs H Q E →
    codeAny (model P w) A (.call (.ref f) args) (CR CX outer P w H s Q E) s
theorem FnOk.imp {P:Program} {w:World} {K:PySem.W.Frag} {mg:Str→Option Value} {base:Heap} {CX:CXT} {k:Nat} {f:Addr} {fd:FuncData} {ps:List Str} {sp sp':Sp} (F:FnOk P w K mg base CX k f fd ps sp)
    (h:∀ vs H Q E,sp' vs H Q E→sp vs H Q E):FnOk P w K mg base CX k f fd ps sp' :=
  ⟨fun vs H Q E q=>F.len vs H Q E (h _ _ _ _ q),fun A outer s H args us vs Q E hr he hb hv hs=>F.run A outer s H args us vs Q E hr he hb hv (h _ _ _ _ hs)⟩
theorem Env0.make {P:Program} {w:World} {K:PySem.W.Frag} {mg:Str→Option Value} {base:Heap} {A:Around} {outer:List Env} {s:Shared} {H:Hp} (e:Env0 P w K mg base A outer s H) (C:Addr) (us:List Value) (kw:List (Str × Value)) :
    Env0 P w K mg base (A.under (.builtin "type.__call__" ⟨.ref C :: us,kw⟩)) outer s H:=⟨by first | exact e.frames | (simpa [Around.under,Code.envs,Code.isFrame,pushEnvs] using e.frames),e.mod,e.bs,e.bsz,e.funs,e.frf,e.hok,e.bare⟩
theorem Env0.in1 {P:Program} {w:World} {K:PySem.W.Frag} {mg:Str→Option Value} {base:Heap} {A:Around} {outer:List Env} {s:Shared} {H:Hp} (e:Env0 P w K mg base A outer s H) :
    Env0 P w K mg base A.in1 outer s H:=⟨e.frames,e.mod,e.bs,e.bsz,e.funs,e.frf,e.hok,e.bare⟩
section
variable {X : Cx} {pins : List (Addr × Obj)} {σ : St} {H : Hp} {s s' : Shared}
theorem Inv.env0 (I:Inv X pins σ H s):Env0 X.prog X.w X.K X.mg X.base X.A X.stack s H :=
  ⟨I.ok.frames,I.ok.mod,I.bs,Nat.le_trans I.ok.bsz I.sz,I.stack,I.stkFree,I.hok,I.bare⟩
theorem Inv.after {Q:VK} {u:Value} (I:Inv X pins σ H s) (h:CE X.stack X.prog X.w H s Q u s'):EP X pins σ Q u s':=by
  obtain ⟨v,H',os,bare,un,hok,r,q⟩:=h
  obtain ⟨hh,g,d,t,os'⟩:=s'
  obtain rfl:os'=s.os:=os
  exact ⟨v,H',I.call (h':=hh) (g':=g) (d':=d) (t':=t) (ch:=[]) un hok bare (fun b z=>absurd z (by simp)),r,q⟩
end
def tCall (sp:Sp) (dvs:List V) (E:XK) (t:TA):TE:=fun σ H Q=>t σ H fun vs H1=>sp (vs ++ dvs) H1 Q E
def tMake (C:Addr) (sp:Sp) (dvs:List V) (E:XK) (t:TA):TE:=fun σ H Q=>t σ H fun vs H1=>∀ x dx,H1 x=none→H1 dx=none→dx≠x →
  sp (.ref x :: (vs ++ dvs)) (upd (upd H1 dx (.own x)) x (.ins C dx [])) (fun v H2=>v=.non∧Q (.ref x) H2) E
def Binds (K:PySem.W.Frag) (fd:FuncData) (ps:List Str) (ds:List Value):Prop :=
  ∀ (s:Shared) (us:List Value),K.In s.heap→(us ++ ds).length=ps.length→BindsTo s fd ⟨us,[]⟩ (ps.zip (us ++ ds))
theorem Binds.all {K:PySem.W.Frag} {fd:FuncData} {ps:List Str} (h:∀ us:List Value,us.length=ps.length→bindArgs fd ⟨us,[]⟩=pure (ps.zip us)):Binds K fd ps []:=fun s us _ hl=>by
  rw [List.append_nil] at hl ⊢
  exact .of_eq (h us hl)
def Passes (CX:CXT) (X:Cx) (E:XK):Prop:=∀ (pins:List (Addr × Obj)) (σ:St) (H:Hp) (s:Shared) (e:Value) (s':Shared),Inv X pins σ H s→CX X.stack H s E e s'→X.xe e s'
section
variable {X : Cx} {CX : CXT} {k : Nat} {f C : Addr} {fd : FuncData} {ps : List Str} {sp : Sp} {dvs : List V} {ds : List Value} {E : XK} {x m : Str} {p pos apos : Pos} {e o : Expr} {es : List Expr} {ta : TE} {t : TA}
theorem run_fn {pins:List (Addr × Obj)} {σ:St} {H:Hp} {s:Shared} {Q:VK} {us:List Value} {vs:List V} (F:FnOk X.prog X.w X.K X.mg X.base CX k f fd ps sp) (hr:Room k X.A) (hb:Binds X.K fd ps ds) (hd:Vals dvs ds) (hx:Passes CX X E)
    (I:Inv X pins σ H s) (r:Vals vs us) (h:sp (vs ++ dvs) H Q E):wpAny (model X.prog X.w) X.A (call (.ref f) us) (EP X pins σ Q) X.xe s:=by
  have r2:Vals (vs ++ dvs) (us ++ ds):=r.append hd
  have hl:(us ++ ds).length=ps.length:=by rw [← r2.length]; exact F.len _ _ _ _ h
  refine wpAny_call (codeAny_mono (F.run X.A X.stack s H ⟨us,[]⟩ (us ++ ds) (vs ++ dvs) Q E hr I.env0 (hb s us I.kIn hl) r2 h) fun r s' hq=>?_)
  cases r with
  | error e=>exact hx pins σ H s e s' I hq
  | ok fl =>
    cases fl with
    | ret u=>exact I.after hq
    | next=>exact False.elim hq
    | brk=>exact False.elim hq
    | cont=>exact False.elim hq
theorem pe_call (F:FnOk X.prog X.w X.K X.mg X.base CX k f fd ps sp) (hr:Room k X.A) (hg:Gl X x) (hm:X.mg x=some (.ref f)) (hk:PySem.W.keepIn X.K (.ref f)=true) (hb:Binds X.K fd ps ds) (hd:Vals dvs ds) (hx:Passes CX X E)
    (ha:PA X (e :: es) t) (hdb:(x == ("__debug__":Str))=false:=by decide) (he:starEach (e :: es) X.env=(false,eval e X.env) :: starEach es X.env:=by rfl) (hpl:(backTo pos (starEach es X.env)).any (·.1)=false:=by rfl) :
    PE X (.Call (.Name x p) (e :: es) [] pos) (tCall sp dvs E t):=by
  intro pins s σ H Q I h
  refine wpAny_Call_Name_kw (ld_glob I hg hm ?_ hdb)
  refine PySem.W.callWith_K (h₀:=X.base) I.ok.mod.kin hk (thn (ha pos pins s σ H _ I h) fun us s1 ⟨vs,H1,I1,r,q⟩=>⟨I1.kIn,?_⟩) he hpl
  exact run_fn F hr hb hd hx I1 r q
structure Mk (K:PySem.W.Frag) (C f:Addr):Prop where
  makes:PySem.W.makesIn K C=true
  init:PySem.W.findIn K (.ref C) "__init__"=some (some (.ref f))
  fn:PySem.W.isFn K (.ref f)=true
  kp:PySem.W.keepIn K (.ref C)=true
theorem run_make {pins:List (Addr × Obj)} {σ:St} {H:Hp} {s:Shared} {Q:VK} {us:List Value} {vs:List V} (M:Mk X.K C f) (F:FnOk X.prog X.w X.K X.mg X.base CX k f fd ps sp) (hr:Room (k + 1) X.A) (hb:Binds X.K fd ps ds) (hd:Vals dvs ds)
    (hx:Passes CX X E) (I:Inv X pins σ H s) (r:Vals vs us)
    (h:∀ x dx,H x=none→H dx=none→dx≠x→sp (.ref x :: (vs ++ dvs)) (upd (upd H dx (.own x)) x (.ins C dx [])) (fun v H2=>v=.non∧Q (.ref x) H2) E) :
    wpAny (model X.prog X.w) X.A (call (.ref C) us) (EP X pins σ Q) X.xe s:=by
  have hq:=h (s.heap.objs.size + 1) s.heap.objs.size (I.hok.fresh (Nat.le_succ _)) (I.hok.fresh (Nat.le_refl _)) (Nat.ne_of_lt (Nat.lt_succ_self _))
  have I2:=Inv.made (C:=C) I
  have r2:Vals (V.ref (s.heap.objs.size + 1) :: (vs ++ dvs)) (Value.ref (s.heap.objs.size + 1) :: (us ++ ds)):=.cons rfl (r.append hd)
  have hl:(Value.ref (s.heap.objs.size + 1) :: us ++ ds).length=ps.length:=by
    have e:=r2.length
    rw [F.len _ _ _ _ hq] at e
    exact e.symm
  refine wpAny_call (make_map (f:=f) I.kIn M.makes M.init (beq_iff_eq.mp M.fn) (codeAny_mono (F.run _ X.stack _ _ ⟨Value.ref (s.heap.objs.size + 1) :: us,[]⟩ (Value.ref (s.heap.objs.size + 1) :: (us ++ ds)) _ _ E (hr.make C us [])
    (I2.env0.make C us []) (hb _ (Value.ref (s.heap.objs.size + 1) :: us) I2.kIn hl) r2 hq) fun r s' hq'=>?_))
  cases r with
  | error e=>exact hx pins σ _ _ e s' I2 hq'
  | ok fl =>
    cases fl with
    | ret u =>
      obtain ⟨v,H',I3,rv,ev,q3⟩:=I2.after hq'
      subst ev
      exact ⟨rv,⟨V.ref (s.heap.objs.size + 1),H',I3,rfl,q3⟩⟩
    | next=>exact False.elim hq'
    | brk=>exact False.elim hq'
    | cont=>exact False.elim hq'
theorem pe_make (M:Mk X.K C f) (F:FnOk X.prog X.w X.K X.mg X.base CX k f fd ps sp) (hr:Room (k + 1) X.A) (hg:Gl X x) (hm:X.mg x=some (.ref C)) (hb:Binds X.K fd ps ds) (hd:Vals dvs ds) (hx:Passes CX X E)
    (ha:PA X (e :: es) t) (hdb:(x == ("__debug__":Str))=false:=by decide) (he:starEach (e :: es) X.env=(false,eval e X.env) :: starEach es X.env:=by rfl) (hpl:(backTo pos (starEach es X.env)).any (·.1)=false:=by rfl) :
    PE X (.Call (.Name x p) (e :: es) [] pos) (tMake C sp dvs E t):=by
  intro pins s σ H Q I h
  refine wpAny_Call_Name_kw (ld_glob I hg hm ?_ hdb)
  refine PySem.W.callWith_K (h₀:=X.base) I.ok.mod.kin M.kp (thn (ha pos pins s σ H _ I h) fun us s1 ⟨vs,H1,I1,r,q⟩=>⟨I1.kIn,?_⟩) he hpl
  exact run_make M F hr hb hd hx I1 r q
end
section
variable {X : Cx} {CX : CXT} {k : Nat} {f C : Addr} {fd : FuncData} {ps ks : List Str} {sp : Sp} {E : XK} {x m : Str} {p pos apos kpos : Pos} {e o : Expr} {es : List Expr} {kws : List Keyword} {te ta : TE} {t tk : TA} {nm : Option Str}
structure KBinds (K:PySem.W.Frag) (fd:FuncData) (ps ks:List Str) (g:List Value→List Value→List Value) (gV:List V→List V→List V):Prop where
  to:∀ (s:Shared) (us ws:List Value),K.In s.heap→(g us ws).length=ps.length→BindsTo s fd ⟨us,ks.zip ws⟩ (ps.zip (g us ws))
  rel:∀ {vs:List V} {us:List Value} {zs:List V} {ws:List Value},Vals vs us→Vals zs ws→Vals (gV vs zs) (g us ws)
variable {g : List Value → List Value → List Value} {gV : List V → List V → List V}
end
structure FnScope (N P:List Str) (sc:Scope):Prop where
  kind:sc.kind=.function
  co:sc.isCoroutine=false
  gen:sc.isGenerator=false
  nd:N.Nodup
  pre:N.take P.length=P
  par:∀ x∈P,sc.names.lookup x=some .local∨sc.names.lookup x=some .cell
  nofree:∀ y∈sc.names,y.2≠.free
theorem bindL_out {kindOf:Str→Option NameKind} {x:Str}:∀ {binds:List (Str × Value)} {m:Str→Option Value},(∀ v,(x,v) ∉ binds)→bindL kindOf binds m x=m x
  | [],_,_=>rfl
  | (n,v) :: r,m,h=>by
    unfold bindL
    rw [bindL_out fun w hw=>h w (List.mem_cons_of_mem _ hw)]
    split
    · have:x≠n:=by rintro rfl; exact h v List.mem_cons_self
      simp [this]
    · rfl
theorem bindC_out {kindOf:Str→Option NameKind} {x:Str}:∀ {binds:List (Str × Value)} {m:Str→Option Value},(∀ v,(x,v) ∉ binds)→bindC kindOf binds m x=m x
  | [],_,_=>rfl
  | (n,v) :: r,m,h=>by
    unfold bindC
    rw [bindC_out fun w hw=>h w (List.mem_cons_of_mem _ hw)]
    split
    · rfl
    · have:x≠n:=by rintro rfl; exact h v List.mem_cons_self
      simp [this]
theorem bindL_get {kindOf:Str→Option NameKind} {x:Str} {v:Value}:∀ {P:List Str} {vs:List Value} {i:Nat} {m:Str→Option Value},P.Nodup→P[i]?=some x→vs[i]?=some v→kindOf x=some .local →
    bindL kindOf (P.zip vs) m x=some v
  | [],_,_,_,_,h,_,_=>by simp at h
  | _ :: _,[],_,_,_,_,h,_=>by simp at h
  | p :: P,w :: vs,0,m,nd,h1,h2,hk=>by
    simp at h1 h2; subst h1; subst h2
    show bindL kindOf ((p,w) :: P.zip vs) m p=_
    unfold bindL
    rw [bindL_out fun v hv=>(List.nodup_cons.mp nd).1 (List.of_mem_zip hv).1,if_pos hk]
    simp
  | p :: P,w :: vs,i + 1,m,nd,h1,h2,hk=>by
    show bindL kindOf ((p,w) :: P.zip vs) m x=_
    unfold bindL
    exact bindL_get (i:=i) (List.nodup_cons.mp nd).2 (by simpa using h1) (by simpa using h2) hk
theorem bindC_get {kindOf:Str→Option NameKind} {x:Str} {v:Value}:∀ {P:List Str} {vs:List Value} {i:Nat} {m:Str→Option Value},P.Nodup→P[i]?=some x→vs[i]?=some v→kindOf x≠some .local →
    bindC kindOf (P.zip vs) m x=some v
  | [],_,_,_,_,h,_,_=>by simp at h
  | _ :: _,[],_,_,_,_,h,_=>by simp at h
  | p :: P,w :: vs,0,m,nd,h1,h2,hk=>by
    simp at h1 h2; subst h1; subst h2
    show bindC kindOf ((p,w) :: P.zip vs) m p=_
    unfold bindC
    rw [bindC_out fun v hv=>(List.nodup_cons.mp nd).1 (List.of_mem_zip hv).1,if_neg hk]
    simp
  | p :: P,w :: vs,i + 1,m,nd,h1,h2,hk=>by
    show bindC kindOf ((p,w) :: P.zip vs) m x=_
    unfold bindC
    exact bindC_get (i:=i) (List.nodup_cons.mp nd).2 (by simpa using h1) (by simpa using h2) hk
def start (N:List Str) (vs:List V):St:=vs.map some ++ List.replicate (N.length - vs.length) none
def cxOf (CX:CXT) (P:Program) (w:World) (K:PySem.W.Frag) (mg:Str→Option Value) (base:Heap) (N:List Str) (qual:Str) (scope:Scope) (f:Addr) (cd:Value) (A:Around) (outer:List Env) (s:Shared) (H:Hp) (E:XK):Cx where
  prog:=P
  w:=w
  K:=K
  mg:=mg
  base:=base
  A:=A.deeper (envOfC qual scope s.heap.objs.size f cd)
  N:=N
  s₀:=s
  H₀:=H
  env:=envOfC qual scope s.heap.objs.size f cd
  outer:=outer
  stack:=envOfC qual scope s.heap.objs.size f cd :: outer
  ex:=[]
  calm:=true
  fn:=fun _=>true
  pn:=[]
  kn:=fun _=>Option.none
  xe:=fun e s'=>wpAny (model P w) (A.deeper (envOfC qual scope s.heap.objs.size f cd)) (leaving (envOfC qual scope s.heap.objs.size f cd) e) (fun _ s''=>CX outer H s E e s'') (fun e' s''=>CX outer H s E e' s'') s'
theorem cell_has {sc:Scope} {n:Nat} {x:Str} (h:sc.names.lookup x=some .cell):∃ c,(cellsFrom n sc.names []).lookup x=some c:=by
  have q:=PySem.W.cellsFrom_some sc.names n [] (.inl h)
  exact Option.isSome_iff_exists.mp q
theorem inv_start {CX:CXT} {P:Program} {w:World} {K:PySem.W.Frag} {mg:Str→Option Value} {base:Heap} {N ps:List Str} {qual:Str} {scope:Scope} {f:Addr} {cd:Value} {A:Around} {outer:List Env} {s s1:Shared} {H:Hp} {E:XK} {us:List Value} {vs:List V}
    (S:FnScope N ps scope) (hd:A.handled=none) (e0:Env0 P w K mg base A outer s H) (hl:vs.length=ps.length) (r:Vals vs us)
    (x:InCallC s s.heap.objs.size (bindL (envOfC qual scope s.heap.objs.size f cd).kindOf (ps.zip us) fun _=>none) (cellsFrom (s.heap.objs.size + 1) scope.names []) (bindC (envOfC qual scope s.heap.objs.size f cd).kindOf (ps.zip us) fun _=>none) s1) :
    Inv (cxOf CX P w K mg base N qual scope f cd A outer s H E) [] (start N vs) H s1:=by
  have hpl:ps.length≤N.length:=by have:=congrArg List.length S.pre; rw [List.length_take] at this; omega
  obtain ⟨h1,tk,rfl,hk⟩:=x.done
  have noA:∀ b:Addr,b ∉ (cxOf CX P w K mg base N qual scope f cd A outer s H E).ex:=fun b z=>absurd (show b∈([]:List Addr) from z) (by simp)
  refine ⟨⟨e0.mod,S.kind,rfl,rfl,Nat.le_refl _,fun y z c h1 h2=>?_,fun y hy=>?_,fun y c _ h=>?_,fun _=>hd,Around.frames_deeper e0.frames,.inr ⟨rfl,rfl⟩,fun b z=>absurd z (noA b),e0.bs,e0.bsz,fun b _ _=>noA b,fun b z=>absurd z (noA b),e0.funs,e0.frf⟩,
    rfl,e0.bare,Un.kept hk,⟨_,x.toInCall.ns,fun i y v h1 h2 h3=>?_⟩,fun y c h=>⟨_,x.cell y c h⟩,e0.hok.fresh (Nat.le_refl _),fun y c h=>?_,fun p hp=>absurd (show p∈([]:List (Addr × Obj)) from hp) (by simp),e0.hok.kept hk,?_,fun _ _ z=>nomatch z⟩
  · exact name_of_addr x.apart (PySem.mem_of_lookup h1) (PySem.mem_of_lookup h2)
  · have hy:scope.names.lookup y=some .cell∨scope.names.lookup y=some .free:=hy
    rcases hy with hy | hy
    · exact cell_has hy
    · exact absurd rfl (S.nofree _ (PySem.mem_of_lookup hy))
  · exact Nat.le_of_lt (x.above y c (PySem.mem_of_lookup h))
  · have hi:i < vs.length:=by
      unfold start at h2
      by_cases hi:i < vs.length
      · exact hi
      · rw [List.getElem?_append_right (by simpa using hi)] at h2
        rw [List.getElem?_replicate] at h2
        split at h2 <;> cases h2
    have ha:vs[i]?=some v:=by
      unfold start at h2
      rw [List.getElem?_append_left (by simpa using hi),List.getElem?_map] at h2
      cases e:vs[i]? with
      | none=>rw [e] at h2; cases h2
      | some a=>rw [e] at h2; cases h2; rfl
    obtain ⟨u,hu,rv⟩:=r.get ha
    have hp:ps[i]?=some y:=by
      rw [← S.pre,List.getElem?_take_of_lt (by omega)]; exact h1
    have ndP:ps.Nodup:=by rw [← S.pre]; exact S.nd.sublist (List.take_sublist _ _)
    refine ⟨u,rv,?_⟩
    rcases S.par y (List.mem_of_getElem? hp) with k | k
    · exact .inl ⟨k,bindL_get ndP hp hu k⟩
    · obtain ⟨c,e⟩:=cell_has (n:=s.heap.objs.size + 1) k
      refine .inr ⟨.inl k,c,e,?_⟩
      have q:=x.cell y c e
      rw [bindC_get ndP hp hu (by show scope.names.lookup y≠_; rw [k]; decide)] at q
      exact q
  · exact e0.hok.fresh (Nat.le_of_lt (x.above y c (PySem.mem_of_lookup h)))
  · unfold start
    show _=N.length
    rw [List.length_append,List.length_map,List.length_replicate]
    omega
theorem fn_of {CX:CXT} {P:Program} {w:World} {K:PySem.W.Frag} {mg:Str→Option Value} {base:Heap} {k:Nat} {f:Addr} {name qual:Str} {params:Arguments} {body:List Stmt} {scope:Scope} {dV kV doc pm cdv ct oc:Value} {an od:Option Addr}
    {osl:Array (Option Value)} {N ps:List Str} {sp:Sp} (lk:K.lookup f=some ⟨oc,od,.func (PySem.W.fnOf name qual params body scope dV kV doc pm an cdv ct),osl⟩) (hcd:PySem.W.codeIn K cdv qual=true) (S:FnScope N ps scope)
    (len:∀ vs H Q E,sp vs H Q E→vs.length=ps.length)
    (hbody:∀ (A:Around) (outer:List Env) (s:Shared) (H:Hp) (vs:List V) (Q:VK) (E:XK),Room k (A.deeper (envOfC qual scope s.heap.objs.size f cdv))→sp vs H Q E →
      ∃ t,PSs (cxOf CX P w K mg base N qual scope f cdv A outer s H E) body t∧t { nx:=fun _ H'=>Q .non H',rt:=Q } (start N vs) H) :
    FnOk P w K mg base CX (k + 1) f (PySem.W.fnOf name qual params body scope dV kV doc pm an cdv ct) ps sp:=by
  refine ⟨len,fun A outer s H args us vs Q E hr e0 hb r hsp=>?_⟩
  have hl:=len _ _ _ _ hsp
  have KX:K.In s.heap:=e0.mod.kin.keeps fun b o e=>(e0.bs b o e).1
  have lim:s.heap.NoLimit:=e0.mod.nolimit.keeps fun b o e=>(e0.bs b o e).1
  have hkind:∀ y∈ps.zip us,scope.names.lookup y.1=some .local∨(scope.names.lookup y.1=some .cell∧((cellsFrom (s.heap.objs.size + 1) scope.names []).lookup y.1).isSome=true):=fun ⟨n,v⟩ hy=>by
    rcases S.par n (List.of_mem_zip hy).1 with q | q
    · exact .inl q
    · exact .inr ⟨q,PySem.W.cellsFrom_some _ _ _ (.inl q)⟩
  refine codeAny_call_function hr.depth (KX _ _ lk) rfl S.co S.gen rfl (PySem.W.codeRec_of KX hcd) (hb _ _ _ _ ?_)
  refine wpAny_newFunctionEnv_cells S.kind hkind fun env he s1 x=>?_
  subst he
  refine ⟨lim.keeps x.toInCall.keep,codeAny_func ?_⟩
  obtain ⟨t,ht,hq⟩:=hbody A outer s H vs Q E (hr.deeper _) hsp
  have I:Inv (cxOf CX P w K mg base N qual scope f cdv A outer s H E) [] (start N vs) H s1:=inv_start S hr.hd e0 hl r x
  refine wpAny_mono (ht [] s1 (start N vs) H _ I hq) (fun fl s' hs=>?_) fun e s' hs=>hs
  have fin:∀ {σ':St} {H':Hp} {v:V} {u:Value},Inv (cxOf CX P w K mg base N qual scope f cdv A outer s H E) [] σ' H' s'→RelV v u→Q v H'→CE outer P w H s Q u s' :=
    fun {σ' H' v u} J rv q=>⟨v,H',J.os,J.bare,J.base,J.hok,rv,q⟩
  cases fl with
  | ret u =>
    obtain ⟨v,σ',H',J,rv,q⟩:=hs
    exact fin J rv q
  | next =>
    obtain ⟨σ',H',J,q⟩:=hs
    exact fin (v:=V.non) (u:=Value.none) J rfl q
  | brk =>
    obtain ⟨_,_,_,q⟩:=hs
    exact False.elim q
  | cont =>
    obtain ⟨_,_,_,q⟩:=hs
    exact False.elim q
end L2
namespace L2
open PySem PySem.Spec PyProof.Rows
section
variable {X : Cx} {x : Str} {p pos : Pos} {e : Expr} {es : List Expr} {t : TA} {id T : String} {r : List V → Hp → VK → Prop}
def tCB (r:List V→Hp→VK→Prop) (t:TA):TE:=fun σ H Q=>t σ H fun vs H1=>r vs H1 Q
theorem pe_callB (hc:CallR X (.builtin id) r) (hg:Gl X x) (hm:X.mg x=none) (hv:bootBuiltins x=some (.builtin id)) (ha:PA X (e :: es) t) (hn:x≠"__name__":=by decide) (hdb:(x == ("__debug__":Str))=false:=by decide)
    (he:starEach (e :: es) X.env=(false,eval e X.env) :: starEach es X.env:=by rfl) (hpl:(backTo pos (starEach es X.env)).any (·.1)=false:=by rfl):PE X (.Call (.Name x p) (e :: es) [] pos) (tCB r t):=by
  intro pins s σ H Q I h
  refine wpAny_Call_Name_kw (ld_blt I hg hm hv ?_ hn hdb)
  exact PyProof.Rows.callWith_builtin1 (thn (ha pos pins s σ H _ I h) fun us s1 ⟨vs,H1,I1,r1,q1⟩=>hc pins s1 σ H1 vs us Q I1 r1 q1) he hpl
theorem pe_callTy (hc:CallR X (.type T) r) (hg:Gl X x) (hm:X.mg x=none) (hv:bootBuiltins x=some (.type T)) (ha:PA X (e :: es) t) (hn:x≠"__name__":=by decide) (hdb:(x == ("__debug__":Str))=false:=by decide)
    (he:starEach (e :: es) X.env=(false,eval e X.env) :: starEach es X.env:=by rfl) (hpl:(backTo pos (starEach es X.env)).any (·.1)=false:=by rfl):PE X (.Call (.Name x p) (e :: es) [] pos) (tCB r t):=by
  intro pins s σ H Q I h
  refine wpAny_Call_Name_kw (ld_blt I hg hm hv ?_ hn hdb)
  exact PyProof.Rows.callWith_type1 (thn (ha pos pins s σ H _ I h) fun us s1 ⟨vs,H1,I1,r1,q1⟩=>hc pins s1 σ H1 vs us Q I1 r1 q1) he hpl
end
end L2
namespace HT
open PySem PyProof.Rows
section
open PySem.SeqAt
open PySem.AutoSeq1 (wpAny_loadPart')
open PySem.MeetsSeq PySem.MeetsSeq2 PySem.MeetsSeq3
end
section
variable {prog : Program} {w : World} {A : Around} {E : Value → Shared → Prop} {s : Shared}
def sIx (n d:Nat):Option Int→Nat
  | none=>d
  | some v=>if v < 0 then (v + (n:Int)).toNat else min v.toNat n
theorem sIx_le (n d:Nat) (hd:d≤n) (o:Option Int):sIx n d o≤n:=by
  cases o with
  | none=>exact hd
  | some v =>
    show (if v < 0 then (v + (n:Int)).toNat else min v.toNat n)≤n
    by_cases hv:v < 0
    · rw [if_pos hv]; omega
    · rw [if_neg hv]; exact Nat.min_le_right _ _
theorem clip_eq (v:Int) (n d:Nat):(if v < 0 then max (v + (n:Int)) 0 else min v (n:Int))=((sIx n d (some v):Nat):Int):=by
  show (if v < 0 then max (v + (n:Int)) 0 else min v (n:Int))=(((if v < 0 then (v + (n:Int)).toNat else min v.toNat n):Nat):Int)
  by_cases hv:v < 0
  · simp only [if_pos hv]; omega
  · simp only [if_neg hv]; omega
theorem adjust_gen (lo hi:Option Int) (n:Nat):Builtin.Slice.sliceAdjust lo hi 1 (n:Int)=(((sIx n 0 lo:Nat):Int),((sIx n n hi:Nat):Int)):=by
  have h1:¬ ((1:Int) < 0):=by omega
  unfold Builtin.Slice.sliceAdjust
  simp only [h1,if_false]
  refine Prod.ext ?_ ?_
  · cases lo with
    | none=>rfl
    | some v=>exact clip_eq v n 0
  · cases hi with
    | none=>rfl
    | some v=>exact clip_eq v n n
theorem places_gen (i j:Nat):Builtin.Slice.slicePlaces (i:Int) (j:Int) 1=j - i:=by
  unfold Builtin.Slice.slicePlaces
  have h1:(1:Int) > 0:=by omega
  simp only [h1,if_true,Int.ediv_one]
  split <;> omega
theorem slicePart_ {v:Value} {o:Option Int} {Q:Option Int→Shared→Prop} (p:IsPart v o) (h:Q o s):wpAny (model prog w) A (Builtin.Slice.slicePartIndex v) Q E s:=by
  cases p with
  | none=>exact slicePart_none h
  | int i t=>exact slicePart_int h
theorem sliceApplied_gen {sl:Addr} {vl vu:Value} {lo hi:Option Int} {n:Nat} {Q:Int × Int × Nat→Shared→Prop} (hs:s.heap.IsSliceOf sl vl vu .none) (pl:IsPart vl lo) (pu:IsPart vu hi)
    (h:Q (((sIx n 0 lo:Nat):Int),1,sIx n n hi - sIx n 0 lo) s):wpAny (model prog w) A (Builtin.Slice.sliceApplied (.ref sl) (pure (n:Int))) Q E s:=by
  obtain ⟨os,hos,hcs,hds⟩:=id hs
  unfold Builtin.Slice.sliceApplied Builtin.Slice.sliceFields
  refine wpAny_bind (wpAny_bind (wpAny_field hos hds (x:=vl) rfl (wpAny_bind (wpAny_field hos hds (x:=vu) rfl (wpAny_bind (wpAny_field hos hds (x:=.none) rfl (wpAny_pure ?_)))))))
  refine wpAny_bind (slicePart_none ?_)
  show wpAny _ _ (if ((1:Int) == 0)=true then _ else _) _ _ s
  rw [if_neg (by decide)]
  refine wpAny_bind (slicePart_ pl (wpAny_bind (slicePart_ pu (wpAny_bind (wpAny_pure ?_)))))
  show wpAny _ _ (match Builtin.Slice.sliceAdjust lo hi 1 (n:Int) with | (lo,hi)=>pure (lo,(1:Int),Builtin.Slice.slicePlaces lo hi 1)) _ _ s
  rw [adjust_gen lo hi n]
  show wpAny _ _ (pure (((sIx n 0 lo:Nat):Int),(1:Int),Builtin.Slice.slicePlaces ((sIx n 0 lo:Nat):Int) ((sIx n n hi:Nat):Int) 1)) _ _ s
  rw [places_gen]
  exact wpAny_pure h
theorem pick_gen (xs:Array Value) (i k:Nat):((List.range k).filterMap fun (m:Nat)=>xs[((i:Int) + (m:Int) * 1).toNat]?).toArray=((xs.toList.drop i).take k).toArray:=by
  have e:(fun (m:Nat)=>xs[((i:Int) + (m:Int) * 1).toNat]?)=fun m=>xs[i + m]?:=by
    funext m
    have:((i:Int) + (m:Int) * 1).toNat=i + m:=by omega
    rw [this]
  rw [e]
  have:=pick_run xs i k
  rw [List.filterMap_map] at this
  have e2:((fun x=>xs[x]?) ∘ fun x=>i + x)=fun m=>xs[i + m]?:=rfl
  rw [e2] at this
  rw [this]
theorem getItem_tuple_cut {t sl:Addr} {items:Array Value} {vl vu:Value} {lo hi:Option Int} {Q:Value→Shared→Prop} (ht:IsTup s.heap t items) (hs:s.heap.IsSliceOf sl vl vu .none) (pl:IsPart vl lo) (pu:IsPart vu hi)
    (hw:¬ (sIx items.size 0 lo=0∧sIx items.size items.size hi=items.size))
    (h:Q (.ref s.heap.objs.size) { s with heap:=s.heap.push { cls:=.type "tuple",data:=.seq ((items.toList.drop (sIx items.size 0 lo)).take (sIx items.size items.size hi - sIx items.size 0 lo)).toArray } })
    (hsz:items.size≤sizeLine):wpAny (model prog w) A (getItem (.ref t) (.ref sl)) Q E s:=by
  have htake:sizeOk (.seq ((items.toList.drop (sIx items.size 0 lo)).take (sIx items.size items.size hi - sIx items.size 0 lo)).toArray):=by
    show ((items.toList.drop (sIx items.size 0 lo)).take (sIx items.size items.size hi - sIx items.size 0 lo)).toArray.size≤sizeLine
    rw [List.size_toArray,List.length_take,List.length_drop,Array.length_toList]
    omega
  have hj:sIx items.size items.size hi≤items.size:=sIx_le _ _ (Nat.le_refl _) hi
  obtain ⟨os,hos,hcs,hds⟩:=id hs
  have hTs:s.TypeIs (.ref sl) "slice":=⟨os,hos,hcs⟩
  unfold getItem
  try with_reducible refine wpAny_holding ?_
  first | refine wpAny_bind (wpAny_pure ?_) | skip
  refine wpAny_bind (wpAny_sequenceKey ht.typeIs (by decide) ?_)
  refine wpAny_bind (wpAny_callSpecial?_slot (name:=Str.ofString "__getitem__") ht.typeIs PyProof.Rows.slot_tuple_getitem
    (wpAny_call_entry PyProof.Rows.slot_tuple_getitem ht.typeIs entry_tuple_getitem ?_ (args_tuple_getitem _ _)))
  show wpAny _ _ (Builtin.Tuple.tupleItemsOf (.ref t) >>= _) _ _ s
  refine wpAny_bind (tupleItemsOf_ ht ?_)
  refine wpAny_bind (wpAny_typeOf hTs ?_)
  rw [if_pos (by decide)]
  refine wpAny_bind (sliceApplied_gen hs pl pu ?_)
  have hno:¬ ((((sIx items.size 0 lo:Nat):Int) == 0 && (1:Int) == 1 && (sIx items.size items.size hi - sIx items.size 0 lo) == items.size)=true):=by
    intro q
    rw [Bool.and_eq_true,Bool.and_eq_true] at q
    have q1:((sIx items.size 0 lo:Nat):Int)=0:=eq_of_beq q.1.1
    have q2:sIx items.size items.size hi - sIx items.size 0 lo=items.size:=eq_of_beq q.2
    exact hw ⟨by omega,by omega⟩
  show wpAny _ _ (if (((sIx items.size 0 lo:Nat):Int) == 0 && (1:Int) == 1 && (sIx items.size items.size hi - sIx items.size 0 lo) == items.size)=true then _ else _) _ _ s
  rw [if_neg hno,pick_gen]
  first
    | exact wpAny_bind (m:=Builtin.Tuple.tupleExact _) (wpAny_newObj_type (wpAny_pure ⟨_,rfl,wpAny_pure h⟩) htake)
    | exact wpAny_bind (m:=Builtin.Tuple.tupleExact _) (wpAny_newObj_type (wpAny_bind (wpAny_pure (wpAny_pure ⟨_,rfl,wpAny_pure h⟩))) htake)
    | exact wpAny_bind (wpAny_bind (m:=Builtin.Tuple.tupleExact _) (wpAny_newObj_type (wpAny_pure (wpAny_pure ⟨_,rfl,wpAny_pure h⟩)) htake))
    | exact wpAny_bind (wpAny_bind (m:=Builtin.Tuple.tupleExact _) (wpAny_newObj_type (wpAny_pure ⟨_,rfl,wpAny_pure h⟩) htake))
end
end HT
namespace L2
open PySem PySem.Spec PyProof.Rows
abbrev TO:=St→Hp→(Option Int→Hp→Prop)→Prop
def PO (X:Cx) (e:Option Expr) (t:TO):Prop :=
  ∀ (pins:List (Addr × Obj)) (s:Shared) (σ:St) (H:Hp) (Q:Option Int→Hp→Prop),Inv X pins σ H s→t σ H Q →
    wpAny (model X.prog X.w) X.A (evalPart e X.env) (fun u s'=>∃ o H',Inv X pins σ H' s'∧IsPart u o∧Q o H') X.xe s
def tNoPart:TO:=fun _ H Q=>Q none H
def tPart (t:TE):TO:=fun σ H Q=>t σ H fun x H1=>∃ i,x=.int i∧Q (some i) H1
section
variable {X : Cx} {e : Expr} {te : TE} {lo hi : Option Expr} {tl th : TO} {pos p2 : Pos}
theorem po_none:PO X none tNoPart:=by
  intro pins s σ H Q I h
  rw [evalPart_none]
  exact wpAny_pure ⟨none,H,I,.none,h⟩
theorem po_some (h:PE X e te):PO X (some e) (tPart te):=by
  intro pins s σ H Q I hw
  rw [evalPart_some]
  refine thn (h pins s σ H _ I hw) fun u s1 ⟨x,H1,I1,r1,q1⟩=>?_
  obtain ⟨i,rfl,q⟩:=q1
  obtain ⟨t,rfl⟩:=r1
  exact ⟨some i,H1,I1,.int i t,q⟩
def SlR (X:Cx) (r:V→Option Int→Option Int→Hp→VK→Prop):Prop :=
  ∀ (pins:List (Addr × Obj)) (s:Shared) (σ:St) (H:Hp) (x:V) (v vl vu:Value) (lo hi:Option Int) (sl:Addr) (Q:VK),Inv X pins σ H s→RelV x v→s.heap.IsSliceOf sl vl vu .none→IsPart vl lo→IsPart vu hi→r x lo hi H Q →
    ∃ T id,typeLookup (.type T) "__getitem__"=pure (some (.builtin id))∧s.TypeIs v T∧wpAny (model X.prog X.w) X.A (getItem v (.ref sl)) (EP X pins σ Q) X.xe s
def tSl (r:V→Option Int→Option Int→Hp→VK→Prop) (te:TE) (tl th:TO):TE:=fun σ H Q=>te σ H fun x H1=>tl σ H1 fun l H2=>th σ H2 fun u H3=>r x l u H3 Q
theorem pe_slice {r:V→Option Int→Option Int→Hp→VK→Prop} (hr:SlR X r) (he:PE X e te) (hl:PO X lo tl) (hu:PO X hi th):PE X (.Subscript e (.Slice lo hi none p2) pos) (tSl r te tl th):=by
  intro pins s σ H Q I h
  refine Subscript_ (thn (he pins s σ H _ I h) fun v s1 ⟨x,H1,I1,r1,q1⟩=>?_)
  refine wpAny_Slice (thn (hl pins s1 σ H1 _ I1 q1) fun vl s2 ⟨l,H2,I2,pl,q2⟩=>thn (hu pins s2 σ H2 _ I2 q2) fun vu s3 ⟨u,H3,I3,pu,q3⟩=>?_)
  rw [evalPart_none]
  refine wpAny_pure ?_
  have I4:Inv X pins σ H3 { s3 with heap:=s3.heap.push { cls:=.type "slice",data:=.fields #[vl,vu,.none] } }:=I3.kept (t':=s3.toks) fun b ob q=>Heap.get?_push_of_some _ q
  obtain ⟨T,id,hT,ht,hg⟩:=hr pins { s3 with heap:=s3.heap.push { cls:=.type "slice",data:=.fields #[vl,vu,.none] } } σ H3 x v vl vu l u s3.heap.objs.size Q I4 r1 (Heap.IsSliceOf.new ..) pl pu q3
  show wpAny (model X.prog X.w) X.A (subscriptTail e (.Slice lo hi none p2) v (.ref s3.heap.objs.size)) (EP X pins σ Q) X.xe { s3 with heap:=s3.heap.push { cls:=.type "slice",data:=.fields #[vl,vu,.none] } }
  exact tail_any (ops:=[.ref s3.heap.objs.size,v]) ht hT hg (by with_unfolding_all rfl)
def cutV (xs:List V) (lo hi:Option Int):List V:=(xs.drop (HT.sIx xs.length 0 lo)).take (HT.sIx xs.length xs.length hi - HT.sIx xs.length 0 lo)
theorem cutV_length (xs:List V) (lo hi:Option Int):(cutV xs lo hi).length≤xs.length:=by
  unfold cutV
  rw [List.length_take,List.length_drop]
  omega
def rSlT (K:PySem.W.Frag):V→Option Int→Option Int→Hp→VK→Prop:=fun x lo hi H Q=>∃ a xs,x=.ref a∧SqT K H a xs ∧
  ¬ (HT.sIx xs.length 0 lo=0∧HT.sIx xs.length xs.length hi=xs.length)∧∀ p,H p=none→Q (.ref p) (upd H p (.tup (cutV xs lo hi)))
theorem sl_tup:SlR X (rSlT X.K):=by
  intro pins s σ H x v vl vu lo hi sl Q I rx hs pl pu h
  obtain ⟨a,xs,rfl,hx,hw,q⟩:=h
  cases rx
  obtain ⟨its,r,ht,hz⟩:=I.tuple hx
  have hlen:its.toArray.size=xs.length:=by rw [List.size_toArray]; exact r.length.symm
  refine ⟨"tuple",_,PyProof.Rows.slot_tuple_getitem.lookup,ht.typeIs,?_⟩
  refine HT.getItem_tuple_cut ht hs pl pu (by rw [hlen]; exact hw) ?_ (by rw [hlen]; exact hz)
  rw [hlen]
  refine ⟨.ref s.heap.objs.size,_,I.laid (t':=s.toks) (o:=.tup (cutV xs lo hi)) (fun b ob q=>Heap.get?_push_of_some _ q) (Nat.le_refl _) ?_,rfl,q _ (I.hok.fresh (Nat.le_refl _))⟩
  exact ⟨Nat.le_trans (cutV_length xs lo hi) hz,_,(r.drop (HT.sIx xs.length 0 lo)).take (HT.sIx xs.length xs.length hi - HT.sIx xs.length 0 lo),IsTup.new _ _⟩
end
end L2
namespace L2
open PySem PySem.Spec PyProof.Rows
def ixN (n:Nat) (i:Int):Option Nat:=if 0≤i then (if i < n then some i.toNat else none) else if -(n:Int)≤i then some (i + n).toNat else none
def atI {α:Type} (xs:List α) (i:Int):Option α:=(ixN xs.length i).bind fun j=>xs[j]?
theorem ixN_seq {n:Nat} {i:Int} {j:Nat} (h:ixN n i=some j):seqIndex? i n=some j∧j < n∧-(n:Int)≤i∧i < n:=by
  unfold ixN at h
  by_cases h0:0≤i
  · rw [if_pos h0] at h
    by_cases h1:i < n
    · rw [if_pos h1] at h
      have e:i.toNat=j:=Option.some.inj h
      exact ⟨by rw [seqIndex_of h0 h1,e],by omega,by omega,h1⟩
    · rw [if_neg h1] at h; cases h
  · rw [if_neg h0] at h
    by_cases h1:-(n:Int)≤i
    · rw [if_pos h1] at h
      have e:(i + n).toNat=j:=Option.some.inj h
      exact ⟨by rw [seqIndex_neg (by omega) h1,e],by omega,h1,by omega⟩
    · rw [if_neg h1] at h; cases h
theorem atI_get {α:Type} {xs:List α} {i:Int} {v:α} (h:atI xs i=some v):∃ j,seqIndex? i xs.length=some j∧xs[j]?=some v∧j < xs.length∧-(xs.length:Int)≤i∧i < xs.length:=by
  unfold atI at h
  cases e:ixN xs.length i with
  | none=>rw [e] at h; cases h
  | some j =>
    rw [e] at h
    obtain ⟨h1,h2,h3,h4⟩:=ixN_seq e
    exact ⟨j,h1,h,h2,h3,h4⟩
theorem atI_nat {α:Type} {xs:List α} {j:Nat} {v:α} (h:xs[j]?=some v):atI xs (j:Int)=some v:=by
  have hj:j < xs.length:=(List.getElem?_eq_some_iff.mp h).1
  have e:ixN xs.length (j:Int)=some j:=by
    unfold ixN
    rw [if_pos (by omega),if_pos (by omega)]; simp
  unfold atI; rw [e]; exact h
def PlainIx (b:Expr):Prop:=∀ o i,subscripted b false o i=operate [o,i] (getItem o i)
def IxR (X:Cx) (r:R2):Prop :=
  ∀ (value slice:Expr) (pins:List (Addr × Obj)) (s:Shared) (σ:St) (H:Hp) (x y:V) (v u:Value) (Q:VK),Inv X pins σ H s→RelV x v→RelV y u→r x y H Q →
    subscripted slice false v u=operate [v,u] (getItem v u)→wpAny (model X.prog X.w) X.A (subscriptTail value slice v u) (EP X pins σ Q) X.xe s
def MtR (X:Cx) (id:String) (r:V→List V→Hp→VK→Prop):Prop :=
  ∀ (pins:List (Addr × Obj)) (s:Shared) (σ:St) (H:Hp) (x:V) (xs:List V) (v:Value) (us:List Value) (Q:VK),Inv X pins σ H s→RelV x v→Vals xs us→r x xs H Q →
    wpAny (model X.prog X.w) X.A (call (.builtin id) (v :: us)) (EP X pins σ Q) X.xe s
section
variable {X : Cx} {a b : Expr} {ta tb : TE} {pos : Pos}
theorem pe_ix {r:R2} (hr:IxR X r) (ha:PE X a ta) (hb:PE X b tb) (hs:PlainIx b):PE X (.Subscript a b pos) (tOp r ta tb):=by
  intro pins s σ H Q I h
  exact Subscript_ (binT ha hb I h fun v u s2 x y H2 I2 rx ry q=>hr a b pins s2 σ H2 x y v u Q I2 rx ry q (hs _ _))
def rIxL (K:PySem.W.Frag):R2:=fun x y H Q=>∃ p xs i v,x=.ref p∧y=.int i∧SqL K H p xs∧atI xs i=some v∧Q v H
def rIxT (K:PySem.W.Frag):R2:=fun x y H Q=>∃ p xs i v,x=.ref p∧y=.int i∧SqT K H p xs∧atI xs i=some v∧Q v H
theorem ix_list:IxR X (rIxL X.K):=by
  intro value slice pins s σ H x y v u Q I rx ry h hs
  obtain ⟨p,xs,i,z,rfl,rfl,hq,he,q⟩:=h
  cases rx
  obtain ⟨t,rfl⟩:=ry
  obtain ⟨its,r,pl,hz⟩:=I.list hq
  obtain ⟨j,h1,h2,h3,h4,h5⟩:=atI_get he
  obtain ⟨w,ew,rw'⟩:=r.get h2
  have hl:=r.length
  have hn:=line63
  have fin:EP X pins σ Q w s:=⟨z,H,I,rw',q⟩
  by_cases h0:0≤i
  · have hj:i.toNat=j:=by
      rw [seqIndex_of h0 h5] at h1
      exact Option.some.inj h1
    exact item_listR pl.isList h0 (by omega) (by rw [hj]; simpa using ew) fin hs
  · have hj:(i + (its.toArray.size:Int)).toNat=j:=by
      rw [seqIndex_neg (by omega) h4] at h1
      rw [List.size_toArray,← hl]
      exact Option.some.inj h1
    exact subscriptTail_builtinR (x:=w) pl.isList.typeIs slot_list_getitem.lookup
      (wpAny_getItem_list_neg (Q:=fun r s'=>r=w∧EP X pins σ Q r s') pl.isList (by omega) (by rw [List.size_toArray] <;> omega) (by omega) (by rw [hj]; simpa using ew) ⟨rfl,fin⟩) hs
theorem ix_tup:IxR X (rIxT X.K):=by
  intro value slice pins s σ H x y v u Q I rx ry h hs
  obtain ⟨p,xs,i,z,rfl,rfl,hq,he,q⟩:=h
  cases rx
  obtain ⟨t,rfl⟩:=ry
  obtain ⟨its,r,pl,hz⟩:=I.tuple hq
  obtain ⟨j,h1,h2,h3,h4,h5⟩:=atI_get he
  obtain ⟨w,ew,rw'⟩:=r.get h2
  have hl:=r.length
  have hn:=line63
  have fin:EP X pins σ Q w s:=⟨z,H,I,rw',q⟩
  exact subscriptTail_builtinR (x:=w) pl.typeIs slot_tuple_getitem.lookup
    (getItem_tuple (j:=j) (Q:=fun r s'=>r=w∧EP X pins σ Q r s') pl (by omega) (by omega) (by rw [List.size_toArray,← hl]; exact h1) (by simpa using ew) ⟨rfl,fin⟩) hs
theorem mapSeq_set (its:List Value) (n j:Nat) (u:Value):Obj.mapSeq (·.setIfInBounds j u) { cls:=.type "list",data:=.seq its.toArray n }={ cls:=.type "list",data:=.seq (its.set j u).toArray n }:=by
  simp [Obj.mapSeq]
theorem Inv.lst {pins:List (Addr × Obj)} {σ:St} {H:Hp} {s:Shared} {p:Addr} {xs:List V} (I:Inv X pins σ H s) (h:H p=some (.lst xs)) :
    ∃ (its:List Value) (n:Nat),Vals xs its∧s.heap.get? p=some { cls:=.type "list",data:=.seq its.toArray n }∧xs.length≤sizeLine:=by
  obtain ⟨z,its,n,r,e⟩:=I.hok p _ h
  exact ⟨its,n,r,e,z⟩
theorem Inv.lstUpd {pins:List (Addr × Obj)} {σ:St} {H:Hp} {s:Shared} {p:Addr} {xs ys:List V} {its its':List Value} {n n':Nat} {f:Obj→Obj} (I:Inv X pins σ H s) (h:H p=some (.lst xs))
    (ho:s.heap.get? p=some { cls:=.type "list",data:=.seq its.toArray n }) (hf:f { cls:=.type "list",data:=.seq its.toArray n }={ cls:=.type "list",data:=.seq its'.toArray n' }) (r:Vals ys its') (hz:ys.length≤sizeLine) (t:Nat) :
    Inv X pins σ (upd H p (.lst ys)) { s with heap:=s.heap.update p f,toks:=t }:=by
  have e:(s.heap.update p f).get? p=some { cls:=.type "list",data:=.seq its'.toArray n' }:=by
    rw [Heap.get?_update_self f ho (by rw [hf] <;> rfl),hf]
  refine I.write (x:=p) (e:=p) (by rw [h]; trivial) (.inl rfl) (fun b u hb q=>(Heap.get?_update_other _ _ (Ne.symm hb)).trans q) ⟨_,e⟩ ?_
  exact ⟨hz,its',n',r,e⟩
def rSetL:V→V→V→Hp→(Hp→Prop)→Prop:=fun o i v H Q=>∃ p xs k j,o=.ref p∧i=.int k∧H p=some (.lst xs)∧ixN xs.length k=some j∧Q (upd H p (.lst (xs.set j v)))
theorem set_list:PSet X rSetL:=by
  intro pins s σ H o i v ov iv u Q I ro ri rv h
  obtain ⟨p,xs,k,j,rfl,rfl,hp,hj,q⟩:=h
  cases ro
  obtain ⟨t,rfl⟩:=ri
  obtain ⟨its,n,r,ho,hz⟩:=I.lst hp
  obtain ⟨h1,h2,h3,h4⟩:=ixN_seq hj
  have hl:=r.length
  have hn:=line63
  have I':Inv X pins σ (upd H p (.lst (xs.set j v))) { s with heap:=s.heap.update p (Obj.mapSeq (·.setIfInBounds j u)) } :=
    I.lstUpd hp ho (mapSeq_set its n j u) (r.set rv j) (by rw [List.length_set]; exact hz) s.toks
  by_cases h0:0≤k
  · have hk:k.toNat=j:=by
      rw [seqIndex_of h0 h4] at h1
      exact Option.some.inj h1
    exact PySem.W.ki_setAt ho h0 (by omega) (by rw [List.size_toArray,← hl]; exact h4) (by rw [hk]; exact ⟨_,I',q⟩)
  · have hk:(k + (its.toArray.size:Int)).toNat=j:=by
      rw [seqIndex_neg (by omega) h3] at h1
      rw [List.size_toArray,← hl]
      exact Option.some.inj h1
    exact PySem.W.ki_setBack ho (by omega) (by rw [List.size_toArray,← hl]; exact h3) (by omega) (by rw [hk]; exact ⟨_,I',q⟩)
def flatV:V→Bool
  | .non=>true
  | .bl _=>true
  | .int _=>true
  | .str _=>true
  | _=>false
def eqV:V→V→Bool
  | .non,.non=>true
  | .bl a,.bl b=>a == b
  | .bl a,.int b=>(if a then 1 else 0) == b
  | .int a,.bl b=>a == (if b then 1 else 0)
  | .int a,.int b=>a == b
  | .str a,.str b=>a == b
  | _,_=>false
theorem eqAt_V {A:Around} {s:Shared} {y x:V} {u v:Value} (ry:RelV y u) (rx:RelV x v) (fy:flatV y=true) (fx:flatV x=true):SeqAt.EqAt A s u v (eqV y x):=by
  cases y with
  | non =>
    cases ry
    cases x with
    | non=>cases rx; exact SeqAt.EqAt.same _
    | bl b=>cases rx; exact SeqAt.EqAt.none_bool b
    | int b=>obtain ⟨t,rfl⟩:=rx; exact SeqAt.EqAt.none_int b t
    | str b=>obtain ⟨t,rfl⟩:=rx; exact SeqAt.EqAt.none_str b t
    | _=>exact absurd (show false=true from fx) Bool.false_ne_true
  | bl a =>
    cases ry
    cases x with
    | non=>cases rx; exact SeqAt.EqAt.bool_none a
    | bl b=>cases rx; exact SeqAt.EqAt.bool_bool a b
    | int b=>obtain ⟨t,rfl⟩:=rx; exact SeqAt.EqAt.bool_int a b t
    | str b=>obtain ⟨t,rfl⟩:=rx; exact SeqAt.EqAt.bool_str a b t
    | _=>exact absurd (show false=true from fx) Bool.false_ne_true
  | int a =>
    obtain ⟨t',rfl⟩:=ry
    cases x with
    | non=>cases rx; exact SeqAt.EqAt.int_none a t'
    | bl b=>cases rx; exact SeqAt.EqAt.int_bool a t' b
    | int b=>obtain ⟨t,rfl⟩:=rx; exact SeqAt.EqAt.int_int a t' b t
    | str b=>obtain ⟨t,rfl⟩:=rx; exact SeqAt.EqAt.int_str a t' b t
    | _=>exact absurd (show false=true from fx) Bool.false_ne_true
  | str a =>
    obtain ⟨t',rfl⟩:=ry
    cases x with
    | non=>cases rx; exact SeqAt.EqAt.str_none a t'
    | bl b=>cases rx; exact SeqAt.EqAt.str_bool a t' b
    | int b=>obtain ⟨t,rfl⟩:=rx; exact SeqAt.EqAt.str_int a t' b t
    | str b=>obtain ⟨t,rfl⟩:=rx; exact SeqAt.EqAt.str_str a t' b t
    | _=>exact absurd (show false=true from fx) Bool.false_ne_true
  | _=>exact absurd (show false=true from fy) Bool.false_ne_true
theorem call_len_seq:CallR X (.builtin "len") (fun xs H Q=>∃ p ys,xs=[.ref p]∧(SqL X.K H p ys∨SqT X.K H p ys)∧Q (.int ys.length) H):=by
  intro pins s σ H xs us Q I r h
  obtain ⟨p,ys,rfl,hq,q⟩:=h
  obtain ⟨u,rfl,rx⟩:=vals1 r
  cases rx
  have hn:=line63
  rcases hq with hq | hq
  · obtain ⟨its,r',pl,hz⟩:=I.list hq
    have hlen:=r'.length
    exact Calls.call_len_list pl.isList (by simp only [List.size_toArray] <;> omega) ⟨.int ys.length,H,I.tok _,⟨s.toks + 1,by rw [List.size_toArray,hlen]⟩,q⟩
  · obtain ⟨its,r',pl,hz⟩:=I.tuple hq
    have hlen:=r'.length
    exact len_tuple pl (by simp only [List.size_toArray] <;> omega) ⟨.int ys.length,H,I.tok _,⟨s.toks + 1,by rw [List.size_toArray,hlen]⟩,q⟩
theorem call_list_of:CallR X (.type "list") (fun xs H Q=>∃ p ys,xs=[.ref p]∧(SqL X.K H p ys∨SqT X.K H p ys)∧∀ l,H l=none→Q (.ref l) (upd H l (.lst ys))):=by
  intro pins s σ H xs us Q I r h
  obtain ⟨p,ys,rfl,hq,q⟩:=h
  obtain ⟨u,rfl,rx⟩:=vals1 r
  cases rx
  have fin:∀ (its:List Value),Vals ys its→ys.length≤sizeLine→∀ (h':Heap) (c':Nat),(∀ b o',s.heap.get? b=some o'→h'.get? b=some o') →
      h'.get? s.heap.objs.size=some { cls:=.type "list",dict:=none,data:=.seq its.toArray c',slots:=#[] }→EP X pins σ Q (.ref s.heap.objs.size) { s with heap:=h' }:=fun its r' hz h' c' kp e =>
    ⟨.ref s.heap.objs.size,_,I.laid (t':=s.toks) kp (Nat.le_refl _) (show ObjOk X.prog X.w _ h' _ (.lst ys) from ⟨hz,its,c',r',e⟩),rfl,q _ (I.hok.fresh (Nat.le_refl _))⟩
  rcases hq with hq | hq
  · obtain ⟨its,r',pl,hz⟩:=I.list hq
    have hlen:=r'.length
    obtain ⟨o,ho,hc,n,hd⟩:=pl.isList
    exact call_list_seq p (.inl rfl) ho hc hd (fun h' c' kp e=>fin its r' hz h' c' kp e) (by simp only [List.size_toArray] <;> omega)
  · obtain ⟨its,r',pl,hz⟩:=I.tuple hq
    have hlen:=r'.length
    obtain ⟨o,ho,hc,n,hd⟩:=pl
    exact call_list_seq p (.inr rfl) ho hc hd (fun h' c' kp e=>fin its r' hz h' c' kp e) (by simp only [List.size_toArray] <;> omega)
theorem call_tuple_of:CallR X (.type "tuple") (fun xs H Q=>∃ p ys,xs=[.ref p]∧((SqL X.K H p ys∧∀ l,H l=none→Q (.ref l) (upd H l (.tup ys)))∨(SqT X.K H p ys∧Q (.ref p) H))):=by
  intro pins s σ H xs us Q I r h
  obtain ⟨p,ys,rfl,h⟩:=h
  obtain ⟨u,rfl,rx⟩:=vals1 r
  cases rx
  rcases h with ⟨hq,q⟩ | ⟨hq,q⟩
  · obtain ⟨its,r',pl,hz⟩:=I.list hq
    have hlen:=r'.length
    refine call_tuple_list pl.isList (fun h' kp=>?_) (by simp only [List.size_toArray] <;> omega)
    have I1:Inv X pins σ H { s with heap:=h' }:=I.kept (t':=s.toks) kp
    have I2:Inv X pins σ (upd H h'.objs.size (.tup ys)) { s with heap:=h'.push { cls:=.type "tuple",data:=.seq its.toArray } } :=
      I1.laid (t':=s.toks) (fun b o e=>Heap.get?_push_of_some _ e) (Nat.le_refl _) (show ObjOk X.prog X.w _ _ _ (.tup ys) from ⟨hz,its,r',IsTup.new _ _⟩)
    exact ⟨.ref h'.objs.size,_,I2,rfl,q _ (I1.hok.fresh (Nat.le_refl _))⟩
  · obtain ⟨its,r',pl,hz⟩:=I.tuple hq
    exact call_tuple_same pl ⟨.ref p,H,I,rfl,q⟩
def tyV (K:PySem.W.Frag) (T:String) (x:V) (H:Hp):Prop:=match x with
  | .str _=>T="str"
  | .int _=>T="int"
  | .ref p=>(T="list"∧∃ xs,SqL K H p xs)∨(T="tuple"∧∃ o,K.lookup p=some o∧o.cls=.type "tuple"∧o.dict=none) ∨
      (T="dict"∧((∃ kvs,H p=some (.dK kvs))∨∃ kvs,H p=some (.dT kvs)))∨(T="set"∧∃ S n,H p=some (.set S n))
  | _=>False
theorem tyV_is {pins:List (Addr × Obj)} {σ:St} {H:Hp} {s:Shared} {T:String} {x:V} {v:Value} (I:Inv X pins σ H s) (r:RelV x v) (ty:tyV X.K T x H) :
    s.TypeIs v T∧∀ a,v=.ref a→∃ ob,s.heap.get? a=some ob∧ob.dict=none:=by
  cases x with
  | str z =>
    obtain ⟨t,rfl⟩:=r
    cases (show T="str" from ty)
    exact ⟨typeIs_str s z t,fun _ e=>nomatch e⟩
  | int i =>
    obtain ⟨t,rfl⟩:=r
    cases (show T="int" from ty)
    exact ⟨typeIs_int s i t,fun _ e=>nomatch e⟩
  | ref p =>
    cases r
    rcases ty with ⟨rfl,xs,hq⟩ | ⟨rfl,o,hk,hc,hd⟩ | ⟨rfl,hk⟩ | ⟨rfl,S,n,hk⟩
    · obtain ⟨its,_,pl,_⟩:=I.list hq
      refine ⟨pl.isList.typeIs,fun a e=>?_⟩
      cases e
      obtain ⟨o,n,e,c,hd,_⟩:=pl
      exact ⟨o,e,hd⟩
    · refine ⟨⟨o,I.kIn p o hk,hc⟩,fun a e=>?_⟩
      cases e
      exact ⟨o,I.kIn _ o hk,hd⟩
    · have z:∃ o,s.heap.get? p=some o∧o.ExactDict:=by
        rcases hk with ⟨kvs,hk⟩ | ⟨kvs,hk⟩
        · obtain ⟨_,_,_,_,o,_,_,e,ex,_⟩:=I.hok p _ hk
          exact ⟨o,e,ex⟩
        · obtain ⟨_,_,_,_,o,_,_,e,ex,_⟩:=I.hok p _ hk
          exact ⟨o,e,ex⟩
      obtain ⟨o,e,ex⟩:=z
      refine ⟨⟨o,e,ex.1⟩,fun a e2=>?_⟩
      cases e2
      exact ⟨o,e,ex.2.1⟩
    · obtain ⟨o,_,_,_,e,ex,_⟩:=I.hok p _ hk
      refine ⟨⟨o,e,ex.1⟩,fun a e2=>?_⟩
      cases e2
      exact ⟨o,e,ex.2.1⟩
  | _=>exact False.elim ty
def tBM (K:PySem.W.Frag) (T:String) (r:V→List V→Hp→VK→Prop) (to:TE) (t:TA):TE:=fun σ H Q=>to σ H fun x H1=>tyV K T x H1∧t σ H1 fun xs H2=>r x xs H2 Q
variable {o e : Expr} {es : List Expr} {to : TE} {t : TA} {name : Str} {apos cpos : Pos} {T id : String} {r : V → List V → Hp → VK → Prop}
theorem pe_bm (pa:PlainAttrs T) (slot:Slot T name id) (hty:typeOf (.builtin id)=pure (.type "method_descriptor")) (hm:MtR X id r) (ho:PE X o to) (ha:PA X (e :: es) t)
    (hbase:attributeBase o name X.env (eval o X.env)=eval o X.env:=by rfl)
    (hfew:((backTo cpos (starEach (e :: es) X.env)).all (fun x=>!x.1) && (backToKw cpos (keywordEach [] X.env)).all (fun x=>x.1.isSome)
      && decide ((e :: es).length + ([]:List Keyword).length + (if ([]:List Keyword).isEmpty then 0 else 1) < 30))=true:=by rfl)
    (hline:(apos.endLine == cpos.line)=true:=by rfl) (hs:starEach (e :: es) X.env=(false,eval e X.env) :: starEach es X.env:=by rfl) (hplain:(backTo cpos (starEach es X.env)).any (·.1)=false:=by rfl) :
    PE X (.Call (.Attribute o name apos) (e :: es) [] cpos) (tBM X.K T r to t):=by
  intro pins s σ H Q I h
  refine wpAny_Call_method_late hbase hfew hline rfl (thn (ho pins s σ H _ I h) fun v s1 ⟨x,H1,I1,r1,ty,q1⟩=>?_)
  obtain ⟨h1,h2⟩:=tyV_is I1 r1 ty
  refine ⟨T,id,pa,slot,hty,h1,h2,?_⟩
  have hA:=ha cpos pins s1 σ H1 _ I1 q1
  rw [hs] at hA ⊢
  refine Calls.callWith_builtin (by show (false || (backTo cpos (starEach es X.env)).any (·.1))=false; rw [hplain] <;> rfl) (Calls.evalArgs_plain ?_)
  exact thn hA fun us s2 ⟨vs,H2,I2,r2,q2⟩=>hm pins s2 σ H2 x vs v us Q I2 r1 r2 q2
/- xs.append(e),list.index on a module's tuple .. are MtR facts of 06m -/
end
end L2
namespace L2
open PySem PySem.Spec PyProof.Rows
def MtM (X:Cx) (id:String) (r:V→List V→Hp→VK→Prop):Prop :=
  ∀ (pins:List (Addr × Obj)) (s:Shared) (σ:St) (H:Hp) (x:V) (xs:List V) (v:Value) (us:List Value) (Q:VK),Inv X pins σ H s→RelV x v→Vals xs us→r x xs H Q →
    wpAny (model X.prog X.w) X.A (call (.builtin id) (v :: us)) (EP X pins σ Q) X.xe s
theorem Vals.one:∀ {x:V} {us:List Value},Vals [x] us→∃ u,us=[u]∧RelV x u
  | _,_,.cons r .nil=>⟨_,rfl,r⟩
theorem Vals.two:∀ {x y:V} {us:List Value},Vals [x,y] us→∃ u v,us=[u,v]∧RelV x u∧RelV y v
  | _,_,_,.cons r (.cons q .nil)=>⟨_,_,rfl,r,q⟩
theorem Vals.zero:∀ {us:List Value},Vals [] us→us=[]
  | _,.nil=>rfl
theorem Vals.dropLast {xs:List V} {us:List Value} (h:Vals xs us):Vals xs.dropLast us.dropLast:=by
  induction h with
  | nil=>exact .nil
  | cons r t ih =>
    cases t with
    | nil=>exact .nil
    | cons q t'=>exact .cons r ih
theorem Vals.rep {xs:List V} {us:List Value} (h:Vals xs us):∀ k:Nat,Vals (List.replicate k xs).flatten (List.replicate k us).flatten
  | 0=>.nil
  | k + 1=>by
    rw [List.replicate_succ,List.replicate_succ,List.flatten_cons,List.flatten_cons]
    exact Vals.append h (Vals.rep h k)
theorem foldl_rep (its:List Value):∀ (k:Nat) (acc:List Value),
    List.foldl (fun x1 x2=>x1 ++ x2) acc.toArray (List.replicate k its.toArray)=(acc ++ (List.replicate k its).flatten).toArray
  | 0,acc=>by simp
  | k + 1,acc=>by
    have e:acc.toArray ++ its.toArray=(acc ++ its).toArray:=by simp
    have e2:(acc ++ its) ++ (List.replicate k its).flatten=acc ++ (List.replicate (k + 1) its).flatten:=by
      rw [List.replicate_succ,List.flatten_cons,List.append_assoc]
    rw [← e2,← foldl_rep its k (acc ++ its),← e,List.replicate_succ,List.foldl_cons]
section
variable {X : Cx} {pins : List (Addr × Obj)} {σ : St} {H : Hp} {s : Shared} {l b : Addr} {xs ys zs : List V}
theorem Inv.lset {its its':List Value} {n:Nat} {f:Array Value→Array Value} {t':Nat} (I:Inv X pins σ H s) (hH:H l=some (.lst xs))
    (e:s.heap.get? l=some { cls:=.type "list",data:=.seq its.toArray n }) (hf:f its.toArray=its'.toArray) (hv:Vals ys its') (hz:ys.length≤sizeLine) :
    Inv X pins σ (upd H l (.lst ys)) { s with heap:=s.heap.update l (Obj.mapSeq f),toks:=t' }:=by
  have q:=PySem.IsL.update e f
  rw [hf] at q
  refine I.write (x:=l) (e:=l) (by rw [hH]; exact trivial) (.inl rfl) (fun b' u hb hu=>(Heap.get?_update_other s.heap (Obj.mapSeq f) (Ne.symm hb)).trans hu) ⟨_,q⟩ ?_
  exact ⟨hz,its',_,hv,q⟩
theorem Inv.lnew {its:List Value} {t':Nat} (I:Inv X pins σ H s) (hv:Vals ys its) (hz:ys.length≤sizeLine) :
    Inv X pins σ (upd H s.heap.objs.size (.lst ys)) { s with heap:=s.heap.push { cls:=.type "list",data:=.seq its.toArray },toks:=t' } :=
  I.laid (fun _ _ q=>Heap.get?_push_of_some _ q) (Nat.le_refl _) ⟨hz,its,0,hv,Heap.get?_push_size _ rfl⟩
theorem Inv.fresh (I:Inv X pins σ H s):H s.heap.objs.size=none:=I.hok.fresh (Nat.le_refl _)
theorem Inv.lstM (I:Inv X pins σ H s) (hH:H l=some (.lst xs)):xs.length≤sizeLine∧∃ (its:List Value) (n:Nat),Vals xs its∧xs.length=its.length∧s.heap.get? l=some { cls:=.type "list",data:=.seq its.toArray n }:=by
  obtain ⟨z,its,n,r,e⟩:=I.hok l _ hH
  exact ⟨z,its,n,r,r.length,e⟩
theorem notLongL {n:Nat} (h:n≤sizeLine):Builtin.List.listTooLong n=false:=by
  unfold Builtin.List.listTooLong
  exact decide_eq_false (by omega)
end
section
variable {X : Cx}
def rAppend:V→List V→Hp→VK→Prop:=fun x vs H Q=>∃ l xs y,x=.ref l∧vs=[y]∧H l=some (.lst xs)∧xs.length < sizeLine∧Q .non (upd H l (.lst (xs ++ [y])))
theorem mt_append:MtM X "list.append" rAppend:=by
  intro pins s σ H x vs v us Q I rx rv h
  obtain ⟨l,xs,y,rfl,rfl,hH,hz,q⟩:=h
  cases rx
  obtain ⟨u,rfl,ru⟩:=rv.one
  obtain ⟨z,its,n,r,hl,e⟩:=I.lstM hH
  refine call_meets F.slot_list_append ⟨_,e,rfl⟩ F.entry_list_append (F.args_list_append_2 _ _) (PySem.list_append l its.toArray n u (by rw [List.size_toArray]; omega)) ⟨e,?_⟩
  refine ⟨.non,_,I.lset (its':=its ++ [u]) hH e (by simp) (r.append (.cons ru .nil)) ?_,rfl,q⟩
  rw [List.length_append,List.length_singleton]
  omega
def rRep:R2:=fun x y H Q=>∃ l k xs,x=.ref l∧y=.int k∧H l=some (.lst xs)∧-(2 ^ 63)≤k∧k < 2 ^ 63∧xs.length * k.toNat≤sizeLine ∧
  ∀ p,H p=none→Q (.ref p) (upd H p (.lst (List.replicate k.toNat xs).flatten))
theorem len_rep {α:Type} (xs:List α) (k:Nat):(List.replicate k xs).flatten.length=k * xs.length:=by
  induction k with
  | zero=>simp
  | succ k ih=>rw [List.replicate_succ,List.flatten_cons,List.length_append,ih,Nat.succ_mul,Nat.add_comm]
theorem op_rep:OpR X (binaryOp .Mult) rRep:=by
  intro pins s σ H x y v u Q I rx ry h
  obtain ⟨l,k,xs,rfl,rfl,hH,h1,h2,hz,q⟩:=h
  cases rx
  obtain ⟨t,rfl⟩:=ry
  obtain ⟨z,its,n,r,hl,e⟩:=I.lstM hH
  have hlen:its.toArray.size * k.toNat≤sizeLine:=by rw [List.size_toArray,← hl]; exact hz
  have hcap:¬ its.toArray.size * k.toNat > (2 ^ 63 - 1) / 8:=by
    have:(sizeLine:Nat)≤(2 ^ 63 - 1) / 8:=by decide
    omega
  have hfit:¬ (!Builtin.List.listFitsIndex k)=true:=by
    rw [fitsIndex_both h1 h2]
    exact Bool.false_ne_true
  have hlong:¬ Builtin.List.listTooLong (its.toArray.size * k.toNat)=true:=by
    rw [notLongL hlen]
    exact Bool.false_ne_true
  have hnew:List.foldl (fun x1 x2=>x1 ++ x2) #[] (List.replicate (if its.toArray.isEmpty=true then 0 else k.toNat) its.toArray)=(List.replicate k.toNat its).flatten.toArray:=by
    have f0:∀ m:Nat,List.foldl (fun x1 x2=>x1 ++ x2) #[] (List.replicate m its.toArray)=(List.replicate m its).flatten.toArray:=fun m=>by
      have:=foldl_rep its m []
      rw [List.nil_append] at this
      exact this
    rw [f0]
    cases its with
    | nil=>simp
    | cons a r'=>rw [if_neg (by simp)]
  refine wpAny_binaryOp_repeat_ref (T:="list") (U:="int") (by decide) ⟨_,e,rfl⟩ (fun s'=>typeIs_int s' k t) noFill_list_mul F.fills_int_mul F.slot_int_rmul repeat_list F.slot_int_index.lookup
    (call_meets F.slot_int_rmul (typeIs_int s k t) F.entry_int_rmul (F.args_int_rmul_2 _ _) (int___rmul___int_list k t l its.toArray n)
      ⟨e,rfl,⟨_,e,rfl⟩,call_meets F.slot_list_mul ⟨_,e,rfl⟩ F.entry_list_mul (F.args_list_mul_2 _ _) (AutoListH.list___mul___list_int_3 l its.toArray n k t hfit hcap hlong) ⟨e,?_⟩⟩)
  rw [hnew]
  exact ⟨.ref _,_,I.lnew (t':=s.toks) (r.rep k.toNat) (by rw [len_rep,Nat.mul_comm]; exact hz),rfl,q _ I.fresh⟩
end
section
variable {prog : Program} {w : World} {A : Around} {E : Value → Shared → Prop} {s : Shared}
theorem bounds_run {a c n:Nat} (hac:a≤c) (hc:c≤n):sliceBounds (some (a:Int)) (some (c:Int)) none n=((a:Int),(c:Int),1):=by
  simp only [sliceBounds,Option.getD_none]
  have h1:¬ ((a:Int) < 0):=by omega
  have h2:¬ ((c:Int) < 0):=by omega
  simp only [h1,h2,if_false,show (1:Int) > 0 by decide,if_true]
  congr 1
  · omega
  · congr 1; omega
set_option maxRecDepth 100000 in
theorem setItem_slice {l b sl : Addr} {items new : Array Value} {n n2 : Nat} {vl vu : Value} {a c : Nat} {Q : Unit → Shared → Prop}
    (e : s.heap.get? l = some { cls := .type "list", data := .seq items n }) (e2 : s.heap.get? b = some { cls := .type "list", data := .seq new n2 }) (hne : l ≠ b)
    (hs : s.heap.IsSliceOf sl vl vu .none) (pl : IsPart vl (some (a : Int))) (pu : IsPart vu (some (c : Int))) (hac : a ≤ c) (hc : c ≤ items.size)
    (hsz : items.size + new.size ≤ sizeLine) (h : Q () { s with heap := s.heap.update l (Obj.mapSeq fun xs => xs.extract 0 a ++ new ++ xs.extract c xs.size) }) :
    wpAny (model prog w) A (setItem (.ref l) (.ref sl) (.ref b)) Q E s := by
  have hl : s.heap.IsList l items := PySem.IsL.isList e
  have hb : s.heap.IsList b new := PySem.IsL.isList e2
  obtain ⟨os, hos, hcs, hds⟩ := id hs
  have hTs : s.TypeIs (.ref sl) "slice" := ⟨os, hos, hcs⟩
  have hstep : ¬ ((rawPart none == rawInt 0) = true) := Bool.false_ne_true
  have hsame : Builtin.List.listSameRef (.ref l) (.ref b) = false := by
    unfold Builtin.List.listSameRef
    exact beq_eq_false_iff_ne.mpr hne
  have hmax : (max (a : Int) (c : Int)).toNat = c := by omega
  have hz' : ((fun xs : Array Value => xs.extract 0 a ++ new ++ xs.extract c xs.size) items).size ≤ sizeLine + 1 := by
    simp only [Array.size_append, Array.size_extract]
    omega
  unfold setItem
  try with_reducible refine wpAny_holding ?_
  first | refine wpAny_bind (wpAny_pure ?_) | skip
  refine wpAny_bind (wpAny_sequenceKey hl.typeIs (by decide) ?_)
  refine wpAny_bind (wpAny_callSpecial?_slot (name := Str.ofString "__setitem__") hl.typeIs slot_list_setitem
    (wpAny_call_entry slot_list_setitem hl.typeIs entry_list_setitem ?_ (args_list_setitem _ _ _)))
  show wpAny _ _ (Builtin.List.listSubscript? (.ref sl) >>= _) _ _ s
  refine wpAny_bind ?_
  unfold Builtin.List.listSubscript?
  refine wpAny_bind (wpAny_specialOf hTs slice_no_index ?_)
  simp only [Option.isNone_none, if_true]
  refine wpAny_pure ?_
  show wpAny _ _ (typeOf (.ref sl) >>= _) _ _ s
  refine wpAny_bind (wpAny_typeOf hTs ?_)
  first
    | rw [if_neg (by decide)]
    | refine PySem.W.KFB.if_not (by decide) ?_
  rw [listSliceParts_eq]
  refine wpAny_bind (wpAny_bind (wpAny_field hos hds (x := .none) rfl (wpAny_bind (wpAny_listPart .none ?_))))
  rw [if_neg hstep]
  refine wpAny_bind (wpAny_field hos hds (x := vl) rfl (wpAny_bind (wpAny_listPart pl ?_)))
  refine wpAny_bind (wpAny_field hos hds (x := vu) rfl (wpAny_bind (wpAny_listPart pu (wpAny_pure ?_))))
  first
    | simp only [hsame, Bool.false_eq_true, if_false]
    | refine PySem.W.KFB.if_not hsame ?_
    | (dsimp only
       rw [if_neg (by rw [hsame]; exact Bool.false_ne_true)])
  refine wpAny_bind (m := Builtin.List.listAllItems (.ref b) "must assign iterable to extended slice") ?_
  unfold Builtin.List.listAllItems
  refine wpAny_bind (wpAny_typeOf hb.typeIs ?_)
  first
    | refine PySem.W.KFB.if_so (by decide) ?_
    | rw [if_pos (by decide)]
    | simp only [beq_self_eq_true, Bool.true_or, if_true]
  unfold Builtin.List.listItems
  refine wpAny_bind (wpAny_seqItems e2 rfl (wpAny_pure ?_))
  refine wpAny_bind (wpAny_bind (wpAny_seqItems e rfl (wpAny_pure ?_)))
  refine wpAny_bind (wpAny_of_eq ((sliceIndices_raw (some (a : Int)) (some (c : Int)) none items.size (by simp)).trans (congrArg (pure : Int × Int × Int → Sem (Int × Int × Int)) (bounds_run hac hc))) ?_)
  show wpAny _ _ (if ((1 : Int) == 1) = true then _ else _) _ _ s
  rw [if_pos (by decide)]
  refine wpAny_bind (wpAny_rule ?_)
  first
    | simp only [notLongL hsz, Bool.false_eq_true, if_false]
    | refine PySem.W.KFB.if_not (notLongL hsz) ?_
  first | refine wpAny_bind (wpAny_pure ?_) | skip
  show wpAny _ _ (updateSeq l (fun xs => xs.extract 0 ((a : Int)).toNat ++ new ++ xs.extract (max (a : Int) (c : Int)).toNat xs.size) >>= _) _ _ s
  rw [hmax, Int.toNat_natCast]
  refine wpAny_bind (wpAny_updateSeq (hz := Nat.le_trans (Nat.le_add_right _ _) hsz) (_hz' := hz') e rfl ?_)
  refine wpAny_bind (wpAny_letGo ?_)
  first
    | exact wpAny_bind (wpAny_pure (wpAny_pure ⟨.none, rfl, wpAny_pure h⟩))
    | exact wpAny_pure ⟨.none, rfl, wpAny_pure h⟩
end
section
variable {X : Cx}
end
end L2
namespace Att
open PySem PySem.W PySem.Calls PyProof.Rows
theorem ints_of_wellAll {P:Params} {h:Heap}:∀ (ns:List Int) (vs:List Value),WellAll P h vs (ns.map WData.int)→IntsAre vs ns:=by
  intro ns
  induction ns with
  | nil =>
    intro vs w
    rw [List.map_nil] at w
    cases w
    exact .nil
  | cons n ns ih =>
    intro vs w
    rw [List.map_cons] at w
    cases w with
    | cons a b =>
      cases a
      exact .cons _ _ (ih _ b)
theorem script_of {l:OpenLaw} {n:Nat} (hn:l.most=some n) {P:Params} {h:Heap} {args:List WData} {vals:List Value}
    (hpre:l.row.toRowW.claim.pre args=true) (hwl:WellAll P h vals args) :
    ∃ a vs ns,vals=[Value.ref a]∧args=[WData.list (ns.map WData.int)]∧h.get? a=some { cls:=.type "list",data:=.seq vs.toArray }∧IntsAre vs ns∧ns.length≤n:=by
  have hsh:WShape.hasAll [] args [.list .int]=true:=(pre_splitW hpre).1
  have hc:l.pre.holds [] { args:=args }=true:=(pre_splitW hpre).2
  obtain ⟨d,r,rfl,h1,h2⟩:=hasAllW_cons hsh
  obtain rfl:=hasAllW_nil h2
  obtain ⟨xs,rfl,h3⟩:=hasW_list h1
  obtain ⟨ns,rfl⟩:=items_int h3
  have hlen:ns.length≤n:=by
    unfold OpenLaw.pre at hc
    have h4:(WTm.not (.lt (.lit (.int (n:Int))) (.len (.arg 0)))).holds [] { args:=[.list (ns.map .int)] }=true:=by
      have h4:=(holds_andW hc).1
      rw [hn] at h4
      exact h4
    have h5:=condW_of h4 (w_not (w_lt w_lit (w_len_list (w_arg rfl))))
    rw [List.length_map] at h5
    refine Nat.le_of_not_lt fun q=>?_
    have q':(n:Int) < ((ns.length:Nat):Int):=by omega
    first
      | (rw [decide_eq_true q'] at h5; exact absurd h5 (by decide))
      | (simp at h5; omega)
  cases hwl with
  | cons w1 w2 =>
    cases w2
    cases w1 with
    | list ho hall=>exact ⟨_,_,ns,rfl,rfl,ho,ints_of_wellAll ns _ hall,hlen⟩
theorem post_true (l:OpenLaw) (args:List WData):l.row.toRowW.claim.post args (.bool true) args=true :=
  postW_of (r:=l.row.toRowW) (X:=(true == true))
    (show WShape.has [] (.bool true) .bool=true by first | rfl | decide | simp [WShape.has,WShape.arms,WShape.armsAll])
    (show (WTm.eq .res (.lit (.bool true))).value [] { args:=args,res:=some (.bool true),after:=args }=some (.bool (true == true)) from w_eq_bool (w_res rfl) w_lit) rfl
theorem attach_call {l:OpenLaw} {n:Nat} {q:Program} {loose:List Str} {XP:(Str→Option Value)→Heap→Prop} {YP:World→Heap→Prop} {d:DefRec}
    (hn:l.most=some n) (hdf:d.params.defaults=[])
    (call:∀ (w:World) (s₀ s₁:Shared) (mg mb:Str→Option Value) (fa:Addr) (o:Obj) (pm cd doc:Value) (a:Addr) (vs:List Value) (ns:List Int),
      Ground q loose [] XP w s₀ mg mb s₁.heap→YP w s₁.heap →
      s₁.heap.get? fa=some o→o.data=.func (docDef d.name d.params d.body d.scope pm cd doc)→s₁.heap.CodeRec cd d.name→mg d.name=some (.ref fa) →
      s₁.heap.get? a=some { cls:=.type "list",data:=.seq vs.toArray }→IntsAre vs ns→ns.length≤n→s₁.gens=#[] →
      codeAny (model l.prog w) callerA (.call (.ref fa) ⟨[.ref a],[]⟩) (fun r s'=>r=.ok (.ret (.bool true))∧OldK s₁.heap s'.heap∧s'.os=s₁.os∧AllBare s'.gens) s₁) :
    WalkO q loose XP YP l.row.toRowW d [] (fun f vs=>PySem.call f vs):=by
  intro w s₀ s₁ mg mb G Y fa o pm cd doc dV kV ho hd hcd hD hmg hg args vals as hpre hlay hrd hwl hlo
  obtain rfl:dV=.none:=Dflts.none hD hdf
  obtain rfl:kV=.none:=Dflts.noKw hD
  obtain ⟨a,vs,ns,rfl,rfl,hobj,hints,hlen⟩:=script_of hn hpre hwl
  refine enter_call (codeAny_mono (call w s₀ s₁ mg mb fa o pm cd doc a vs ns G Y ho (fd_plain hd) hcd hmg hobj hints hlen hg) fun r s' hq=>?_)
  obtain ⟨rfl,h2,h3,h4⟩:=hq
  exact ⟨.inl ⟨.bool true,.bool true,[],rfl,fun _=>rfl,.bool true,post_true l _,fun _=>⟨List.Pairwise.nil,fun _ hm=>(nomatch hm)⟩⟩,h2,h3,h4⟩
section
variable {prog : Program} {w : World} {A : Around} {E : Value → Shared → Prop} {s : Shared} {K : Frag}
end
end Att
namespace L2
open PySem PySem.Spec PyProof.Rows
theorem vals_ints:∀ {vs:List Value} {ns:List Int},IntsAre vs ns→Vals (ns.map V.int) vs
  | _,_,.nil=>.nil
  | _,_,.cons n t h=>.cons ⟨t,rfl⟩ (vals_ints h)
def Only (H:Hp):Prop:=∀ b,H b=none∨∃ o xs,H b=some (.frz o (.lst xs))
theorem law_call {P:Program} {w:World} {K:PySem.W.Frag} {mg mb:Str→Option Value} {CX:CXT} {k:Nat} {fa a:Addr} {fd:FuncData} {x:Str} {sp:Sp} {s₁:Shared} {vs:List Value} {ns:List Int}
    (KX:K.In s₁.heap) (hns:s₁.heap.Ns mainGlobals mg) (hb:s₁.heap.Ns builtinsNs mb) (hbb:∀ x:Str,x≠"__name__"→mb x=bootBuiltins x) (hlim:s₁.heap.NoLimit) (hseer:s₁.heap.NoSeer) (hg:s₁.gens=#[])
    (ha:s₁.heap.get? a=some { cls:=.type "list",data:=.seq vs.toArray }) (hi:IntsAre vs ns) (hl:ns.length≤sizeLine) (hr:Room k callerA)
    (F:∀ base:Heap,K.In base→base.Ns mainGlobals mg→FnOk P w K mg base CX k fa fd [x] sp) (hbind:∀ (s:Shared) (u:Value),BindsTo s fd ⟨[u],[]⟩ [(x,u)])
    (hsp:∀ H:Hp,Only H→SqL K H a (ns.map V.int)→sp [.ref a] H (fun v _=>v=.bl true) fun _ _ _=>False)
    (hCX:∀ H e s',CX [] H s₁ (fun _ _ _=>False) e s'→False) :
    codeAny (model P w) callerA (.call (.ref fa) ⟨[.ref a],[]⟩) (fun r s'=>r=.ok (.ret (.bool true))∧OldK s₁.heap s'.heap∧s'.os=s₁.os∧AllBare s'.gens) s₁:=by
  have rv:=vals_ints hi
  have lenV:=hi.length
  have core:∀ H:Hp,Only H→SqL K H a (ns.map V.int)→HOk P w H s₁.heap→(∀ b,H b≠none→b=a)→(H a≠none→K.lookup a=none) →
      codeAny (model P w) callerA (.call (.ref fa) ⟨[.ref a],[]⟩) (fun r s'=>r=.ok (.ret (.bool true))∧OldK s₁.heap s'.heap∧s'.os=s₁.os∧AllBare s'.gens) s₁:=by
    intro H hO hS hok hA hK
    have base_of:∀ {b:Addr} {o:Obj},s₁.heap.get? b=some o→H b=none→(hidT s₁.heap H).get? b=some o:=fun e n=>hidT_get e n
    have noA:∀ {b:Addr} {o:Obj} {es:Array DictEntry} {ep:Nat},s₁.heap.get? b=some o→o.data=.dict es ep→H b=none:=fun {b o es ep} e d=>by
      cases q:H b with
      | none=>rfl
      | some u =>
        have e':b=a:=hA b (by rw [q]; simp)
        subst e'
        rw [ha] at e; cases e
        have d':Data.seq vs.toArray _=Data.dict es ep:=d
        cases d'
    have nsK:∀ {b:Addr} {m:Str→Option Value},s₁.heap.Ns b m→(hidT s₁.heap H).Ns b m:=fun {b m} ⟨o,es,ep,e,d,r⟩=>⟨o,es,ep,base_of e (noA e d),d,r⟩
    have hKb:K.In (hidT s₁.heap H):=fun b o e=>base_of (KX b o e) (by
      cases q:H b with
      | none=>rfl
      | some u =>
        have e':b=a:=hA b (by rw [q]; simp)
        subst e'
        rw [hK (by rw [q]; simp)] at e; cases e)
    have hmain:∃ mg bm ob,(hidT s₁.heap H).Ns mainGlobals mg∧mg "__builtins__"=some (.ref bm)∧(hidT s₁.heap H).get? bm=some ob∧ob.cls=.type "module"∧ob.dict=some builtinsNs:=by
      obtain ⟨mg',bm,ob,h1,h2,h3,h4,h5⟩:=hseer.main
      refine ⟨mg',bm,ob,nsK h1,h2,base_of h3 ?_,h4,h5⟩
      cases q:H bm with
      | none=>rfl
      | some u =>
        have e':bm=a:=hA bm (by rw [q]; simp)
        subst e'
        rw [ha] at h3
        cases h3
        have z:Value.type "list"=Value.type "module":=h4
        exact absurd z (by decide)
    have hM:Mod K mg (hidT s₁.heap H):=⟨hKb,nsK hns,⟨mb,nsK hb,hbb⟩,let ⟨mc,h1,h2⟩:=hlim; ⟨mc,nsK h1,h2⟩,⟨let ⟨mc,h1,h2⟩:=hseer.statics; ⟨mc,nsK h1,h2⟩,let ⟨mc,h1,h2⟩:=hseer.mods; ⟨mc,nsK h1,h2⟩,let ⟨mc,h1,h2⟩:=hseer.imp; ⟨mc,nsK h1,h2⟩,hmain⟩⟩
    have e0:Env0 P w K mg (hidT s₁.heap H) callerA [] s₁ H:=⟨rfl,hM,fun b o e=>of_hidT e,Nat.le_of_eq (hidT_size _ _),trivial,fun b hb=>absurd (show b∈([]:List Addr) from hb) (by simp),hok,.of_eq hg⟩
    refine codeAny_mono ((F _ hKb (nsK hns)).run callerA [] s₁ H ⟨[.ref a],[]⟩ [.ref a] [.ref a] _ _ hr e0 (hbind s₁ (.ref a)) (.cons rfl .nil) (hsp H hO hS)) fun r s' h=>?_
    cases r with
    | error e=>exact (hCX H e s' h).elim
    | ok fl =>
      cases fl with
      | next=>exact False.elim h
      | brk=>exact False.elim h
      | cont=>exact False.elim h
      | ret u =>
        obtain ⟨v,H',os,bare,un,hok',r',q⟩:=h
        have q':v=.bl true:=q
        subst q'
        obtain rfl:u=Value.bool true:=r'
        refine ⟨rfl,OldK.of_keep fun b o e=>?_,os,bare⟩
        cases q:H b with
        | none=>exact un.keep b o e q (by intro z; exact absurd (show b∈([]:List Addr) from z) (by simp)) (by simp)
        | some u =>
          rcases hO b with z | ⟨ob,xs,z⟩
          · rw [q] at z; cases z
          · have z2:=un.frzs b ob _ z
            obtain ⟨e1,_⟩:=hok b _ z
            obtain ⟨e2,_⟩:=hok' b _ z2
            rw [e] at e1; cases e1
            exact e2
  cases hk:K.lookup a with
  | some o =>
    have e:=KX a o hk
    rw [ha] at e
    cases e
    refine core (fun _=>none) (fun _=>.inl rfl) (.inr ⟨_,vs.toArray,_,hk,rfl,rfl,rfl,by rw [List.size_toArray,lenV]; exact hl,by simpa using rv⟩) (fun b u z=>by have z':(none:Option HO)=some u:=z; cases z') (fun b z=>absurd rfl z) fun z=>absurd rfl z
  | none =>
    refine core (fun b=>if b=a then some (.frz { cls:=.type "list",data:=.seq vs.toArray } (.lst (ns.map V.int))) else none) (fun b=>?_) (.inl (.inr ⟨{ cls:=.type "list",data:=.seq vs.toArray },if_pos rfl⟩)) (fun b u z=>?_) (fun b z=>?_) fun _=>hk
    · by_cases hb:b=a
      · exact .inr ⟨_,_,if_pos hb⟩
      · exact .inl (if_neg hb)
    · by_cases hb:b=a
      · have z':=(if_pos hb).symm.trans z
        cases z'
        subst hb
        exact ⟨ha,by rw [List.length_map]; exact hl,vs,_,rv,ha⟩
      · have z':=(if_neg hb).symm.trans z
        cases z'
    · by_cases hb:b=a
      · exact hb
      · exact absurd (if_neg hb) z
end L2
namespace L2
open PySem PySem.Spec PyProof.Rows
abbrev KOf {K:PySem.W.Frag} {h:Heap} (_:K.In h):PySem.W.Frag:=K
theorem walk_of {l:PySem.W.OpenLaw} {n k:Nat} {q:Program} {loose:List Str} {XP:(Str→Option Value)→Heap→Prop} {YP:World→Heap→Prop} {d:DefRec} {K:Params→PySem.W.Frag} {CX:World→CXT} {sp:World→Sp} {x:Str}
    (hn:l.most=some n) (hn2:n≤sizeLine) (hdf:d.params.defaults=[]) (hr:Room k callerA)
    (hY:∀ (w:World) (h:Heap),YP w h→(K w.params).In h)
    (F:∀ (w:World) (mg:Str→Option Value) (fa:Addr) (h:Heap),(K w.params).In h→h.Ns mainGlobals mg→mg d.name=some (.ref fa) →
      ∃ fd:FuncData,(∀ (s:Shared) (u:Value),BindsTo s fd ⟨[u],[]⟩ [(x,u)]) ∧
        ∀ base:Heap,(K w.params).In base→base.Ns mainGlobals mg→FnOk l.prog w (K w.params) mg base (CX w) k fa fd [x] (sp w))
    (hsp:∀ (w:World) (H:Hp) (a:Addr) (ns:List Int),ns.length≤n→Only H→SqL (K w.params) H a (ns.map V.int)→sp w [.ref a] H (fun v _=>v=.bl true) fun _ _ _=>False)
    (hCX:∀ (w:World) (H:Hp) (s:Shared) (e:Value) (s':Shared),CX w [] H s (fun _ _ _=>False) e s'→False) (him:importsNone q=true) :
    PySem.W.WalkO q loose XP YP l.row.toRowW d [] (fun f vs=>PySem.call f vs):=by
  refine Att.attach_call hn hdf fun w s₀ s₁ mg mb fa o pm cd doc a vs ns G Y ho hd hcd hmg hobj hints hlen hg=>?_
  have KX:=hY w _ Y
  obtain ⟨fd,hb,hF⟩:=F w mg fa _ KX G.T.g hmg
  exact law_call KX G.T.g G.T.b G.T.builtins G.T.nolimit (G.T.seer him) hg hobj hints (Nat.le_trans hlen hn2) hr hF hb (fun H hO hS=>hsp w H a ns hlen hO hS) fun H e s'=>hCX w H s₁ e s'
end L2
/- THE LAST THEOREM (shape; LID, My.* are yours):
   My.Adr: a structure of the addresses that your layer names (classes, functions); My.Txt K t: a structure (Prop) of the equations over K;
   My.txt_mk : {K} {implicit addresses ..} (e1 : nsIn K mainGlobals "law" = some (some (.ref f))) (e2 : K.lookup f = some ⟨oc, od, .func (fnOf "law" "law" params body scope dV kV doc pm an cdv ct), sl⟩) (e3 : codeIn K cdv "law" = true) .. : ∃ t, My.Txt K t
set_option maxRecDepth 100000 in
set_option maxHeartbeats 0 in
theorem PySem.Challenge.cw_LID_holds : PySem.Challenge.rw_LID.Holds := by
  w_on; o_law; k_head; (case hw => w_witness2)
  k_fill
  refine L2.walk_of (l := PySem.Challenge.rw_LID) (n := 63) (k := 40) (x := "script") (CX := fun w => ..) (sp := fun _ => My.sp_law) rfl (by decide) rfl ⟨rfl, by decide, by decide⟩ (fun w h Y => PySem.W.kIn_of Y) ?F ?S ?C
  case F =>
    intro w mg fa h KX G hmg
    have T : ∃ t, My.Txt (L2.KOf KX) t := by
      dsimp only [L2.KOf]                          -- K must stand as «<heap const> w.params» for k_is
      refine' My.txt_mk ?e1 ?e2 ?e3 ..
      (case e1 => PySem.W.k_is)                    -- in the order: a name -> its address -> its object -> its parts
      (case e2 => PySem.W.k_is)
      ..
    obtain ⟨t, T⟩ := T
    have e0 := hmg.symm.trans (PySem.W.mg_of KX G T.law)
    cases e0                                       -- fa is the law's own address
    exact ⟨_, fun s u => .of_eq rfl, fun base kb nb => My.law_fn T kb nb⟩     -- if «.of_eq rfl» comes too early: refine' ⟨_, ?b, fun base kb nb => My.law_fn T kb nb⟩; exact fun s u => .of_eq rfl
  case S => exact fun w H a ns hl hO hS => ..
  case C => exact ..
(the tactic k_is has no namespace: write k_is) -/
namespace L2
open PySem PySem.Spec PyProof.Rows
def inClass (s:Stmt) (j:Nat):Stmt:=match s with
  | .ClassDef _ _ _ body _ _ _ _ _ _ _=>body.getD j (.Pass ⟨0,0,0,0⟩)
  | _=>.Pass ⟨0,0,0,0⟩
def defArgs (s:Stmt):Arguments:=match s with
  | .FunctionDef _ a _ _ _ _ _ _ _ _=>a
  | _=>{ posonlyargs:=[],args:=[],vararg:=none,kwonlyargs:=[],kw_defaults:=[],kwarg:=none,defaults:=[] }
def defBody (s:Stmt):List Stmt:=match s with
  | .FunctionDef _ _ b _ _ _ _ _ _ _=>b
  | _=>[]
def defScope (s:Stmt):Scope:=match s with
  | .FunctionDef _ _ _ _ _ _ sc _ _ _=>sc
  | _=>{ kind:=.function,names:=[],isGenerator:=false,isCoroutine:=false }
abbrev CX0:CXT:=fun _ _ _ _ _ _=>False
abbrev E0:XK:=fun _ _ _=>False
structure Fun (K:PySem.W.Frag) (x qual:Str) (st:Stmt) (f:Addr) (fd:FuncData):Prop where
  ex:∃ (oc:Value) (od:Option Addr) (kV doc pm:Value) (an:Option Addr) (cdv ct:Value) (osl:Array (Option Value)),
    fd=PySem.W.fnOf x qual (defArgs st) (defBody st) (defScope st) .none kV doc pm an cdv ct∧K.lookup f=some ⟨oc,od,.func fd,osl⟩∧PySem.W.codeIn K cdv qual=true
  kp:PySem.W.keepIn K (.ref f)=true
section
variable {P : Program} {w : World} {K : PySem.W.Frag} {mg : Str → Option Value} {base : Heap}
theorem Fun.binds {x qual:Str} {st:Stmt} {f:Addr} {fd:FuncData} {ps:List Str} (F:Fun K x qual st f fd)
    (h:∀ (kV doc pm:Value) (an:Option Addr) (cdv ct:Value) (us:List Value),us.length=ps.length→bindArgs (PySem.W.fnOf x qual (defArgs st) (defBody st) (defScope st) .none kV doc pm an cdv ct) ⟨us,[]⟩=pure (ps.zip us)):Binds K fd ps []:=by
  obtain ⟨oc,od,kV,doc,pm,an,cdv,ct,osl,rfl,lk,hcd⟩:=F.ex
  exact .all (h kV doc pm an cdv ct)
theorem fun_mk {x qual:Str} {st:Stmt} {f:Addr} {oc:Value} {od an:Option Addr} {osl:Array (Option Value)} {kV doc pm cdv ct:Value} (l:K.lookup f=some ⟨oc,od,.func (PySem.W.fnOf x qual (defArgs st) (defBody st) (defScope st) .none kV doc pm an cdv ct),osl⟩)
    (c:PySem.W.codeIn K cdv qual=true) (k:PySem.W.keepIn K (.ref f)=true):Fun K x qual st f (PySem.W.fnOf x qual (defArgs st) (defBody st) (defScope st) .none kV doc pm an cdv ct):=⟨⟨oc,od,kV,doc,pm,an,cdv,ct,osl,rfl,l,c⟩,k⟩
end
section
variable {X : Cx}
theorem pv (i:Nat) {x:Str} {pos:Pos} (hN:X.N[i]?=some x:=by rfl) (hv:Vis X.env.scope x:=by first | exact Or.inl rfl | exact Or.inr (Or.inl rfl) | exact Or.inr (Or.inr rfl)) (hd:(x == ("__debug__":Str))=false:=by decide)
    (hcd:(x == ("__classdict__":Str))=false:=by decide):PE X (.Name x pos) (tVar i):=pe_var hN hv hd hcd
end
theorem iteF {A B:Prop} (h:B):if false=true then A else B:=by
  rw [if_neg Bool.false_ne_true]
  exact h
theorem iteT {A B:Prop} (h:A):if true=true then A else B:=by
  rw [if_pos rfl]
  exact h
theorem ite2 {c A B:Prop} [Decidable c] (h1:c→A) (h2:¬ c→B):if c then A else B:=by
  by_cases h:c
  · rw [if_pos h]
    exact h1 h
  · rw [if_neg h]
    exact h2 h
def Same (H H':Hp):Prop:=∀ b o,H b=some o→H' b=some o
theorem Same.refl (H:Hp):Same H H:=fun _ _ h=>h
theorem Same.trans {H H1 H2:Hp} (a:Same H H1) (b:Same H1 H2):Same H H2:=fun c o h=>b c o (a c o h)
theorem Same.free {H H':Hp} (e:Same H H') {l:Addr} (h:H' l=Option.none):H l=Option.none:=by
  cases q:H l with
  | none=>rfl
  | some o =>
    rw [e l o q] at h
    cases h
theorem Same.seq {K:PySem.W.Frag} {H H':Hp} {a:Addr} {xs:List V} (e:Same H H') (h:SqL K H a xs):SqL K H' a xs:=by
  rcases h with (h | ⟨o,h⟩) | h
  · exact .inl (.inl (e _ _ h))
  · exact .inl (.inr ⟨o,e _ _ h⟩)
  · exact .inr h
end L2
namespace L2
open PySem PySem.Spec PyProof.Rows
section
variable {P : Program} {w : World} {H H' : Hp} {h h' : Heap} {a : Addr} {o : HO}
theorem ObjOk.there (x:ObjOk P w H h a o):∃ ob,h.get? a=some ob:=by
  cases o with
  | lst xs=>obtain ⟨_,_,_,_,e⟩:=x; exact ⟨_,e⟩
  | tup xs=>obtain ⟨_,_,_,ob,e,_⟩:=x; exact ⟨_,e⟩
  | dK kvs=>obtain ⟨_,_,_,_,ob,_,_,e,_⟩:=x; exact ⟨_,e⟩
  | dT kvs=>obtain ⟨_,_,_,_,ob,_,_,e,_⟩:=x; exact ⟨_,e⟩
  | set S n=>obtain ⟨ob,_,_,_,e,_⟩:=x; exact ⟨_,e⟩
  | ins C dx fs=>obtain ⟨_,_,_,e,_⟩:=x; exact ⟨_,e⟩
  | own y=>obtain ⟨_,e⟩:=x; exact ⟨_,e⟩
  | xd fs=>obtain ⟨_,⟨_,_,_,e,_⟩,_⟩:=x; exact ⟨_,e⟩
  | rng lo hi=>obtain ⟨_,_,_,e⟩:=x; exact ⟨_,e⟩
  | frz ob u=>obtain ⟨e,_⟩:=x; exact ⟨_,e⟩
  | tbl ps=>exact ⟨_,(show h.get? a=some _ from x)⟩
  | met f y=>exact ⟨_,(show h.get? a=some _ from x)⟩
  | ext φ=>obtain ⟨_,e,_⟩:=x; exact e
end
def FlyB (outer:List Env) (H':Hp) (hs:Heap) (x:Addr) (cls:Value) (h:Heap):Prop :=
  ∃ (B:Heap) (a0:Value),Heap.FlyingW B outer x cls a0 h∧(∀ b,H' b≠none→∃ o,B.get? b=some o)∧(∀ b o,hs.get? b=some o→b ∉ frs outer→∃ o',B.get? b=some o')
def CXE (P:Program) (w:World):CXT:=fun outer H s E e s' =>
  ∃ (x:Addr) (cls:Value) (H':Hp),e=.ref x∧s'.os=s.os∧AllBare s'.gens∧Un (frs outer) [] H H' s.heap s'.heap∧HOk P w H' s'.heap∧FlyB outer H' s.heap x cls s'.heap∧E cls none H'
theorem fly_turn {P:Program} {w:World} {outer:List Env} {H H':Hp} {hs h h' B:Heap} (u:Un (frs outer) [] H H' hs h) (ok:HOk P w H' h) (t:∀ b,H' b≠none→∃ o,B.get? b=some o)
    (el:∀ b o,hs.get? b=some o→b ∉ frs outer→∃ o',B.get? b=some o') (k:B.StaysIn h) (k':B.StaysIn h') (ff:h.FunFrames B outer) (up:h.UpToSlots h') :
    Un (frs outer) [] H H' hs h'∧HOk P w H' h':=by
  have inB:∀ b o,(∃ o',B.get? b=some o')→h.get? b=some o→h'.get? b=some o:=fun b o ⟨o',e'⟩ e=>by
    have z:=k b o' e'
    rw [e] at z
    cases z
    exact k' b _ e'
  have fr:∀ b o,b∈frs outer→h.get? b=some o→∃ sl,h'.get? b=some { o with slots:=sl }:=fun b o hb e=>by
    obtain ⟨_,o2,e2,d⟩:=ff.mem hb
    rw [e] at e2
    cases e2
    exact up b _ e d
  refine ⟨⟨fun b o e n hb hx=>inB b o (el b o e hb) (u.keep b o e n hb hx),fun b o e n hb hx=>?_,u.free,fun b o e hx=>?_,u.tups,u.frzs,u.tbls⟩,fun a o e=>(ok a o e).stay (fun b v hb q=>inB b v (t b ?_) q) (fun _ q=>q) fun _ _ q=>q⟩
  · obtain ⟨sl,e1⟩:=u.slot b o e n hb hx
    obtain ⟨sl',e3⟩:=fr b _ hb e1
    exact ⟨sl',e3⟩
  · obtain ⟨o1,e1⟩:=u.there b o e hx
    by_cases hb:b∈frs outer
    · obtain ⟨sl,e3⟩:=fr b _ hb e1
      exact ⟨_,e3⟩
    · exact ⟨o1,inB b o1 (el b o e hb) e1⟩
  · rcases hb with z | z
    · rw [z,e]; exact fun z=>nomatch z
    · rw [z]; exact fun z=>nomatch z
section
variable {P : Program} {w : World} {K : PySem.W.Frag} {mg : Str → Option Value} {base : Heap} {N : List Str} {qual : Str} {scope : Scope} {f : Addr} {cd : Value} {A : Around} {outer : List Env} {s : Shared} {H : Hp} {E : XK}
theorem pass_cx:Passes (CXE P w) (cxOf (CXE P w) P w K mg base N qual scope f cd A outer s H E) E:=by
  intro pins σ H1 s1 e s' I h
  obtain ⟨x,cls,H',rfl,os,bare,un,hok,⟨B,a0,fl,t,el⟩,q⟩:=h
  refine wpAny_leaves_onW (base:=B) (L:=s.heap.objs.size) I.ok.frames rfl fl fun h' fl' up=>?_
  obtain ⟨un',hok'⟩:=fly_turn un hok t el fl.1 fl'.1 fl.2.2.1 up
  have I':=I.call (h':=h') (g':=s'.gens) (d':=s'.drawn) (t':=s'.toks) (ch:=[]) un' hok' bare (fun b z=>absurd z (by simp))
  refine ⟨x,cls,H',rfl,os.trans I.os,bare,I'.base,hok',⟨B,a0,fl',t,fun b o e nb=>?_⟩,q⟩
  obtain ⟨o1,e1⟩:=I.base.there b o e (fun z=>nomatch z)
  refine el b o1 e1 fun z=>?_
  rcases List.mem_cons.mp (I.stkSub b z) with z' | z'
  · rw [z'] at e
    exact absurd (Heap.lt_size e) (Nat.lt_irrefl _)
  · exact nb z'
theorem raise_cx {pins:List (Addr × Obj)} {σ:St} {H1:Hp} {s1:Shared} {h1:Heap} {e:Addr} {cls:Value} {vs:List Value} (I:Inv (cxOf (CXE P w) P w K mg base N qual scope f cd A outer s H E) pins σ H1 s1)
    (hk:scope.kind=.function) (mx:Heap.MadeExcOf s1.heap h1 e cls vs) (q:E cls none H1):(cxOf (CXE P w) P w K mg base N qual scope f cd A outer s H E).xe (.ref e) { s1 with heap:=h1 }:=by
  have fs:=I.stack
  have hin:∀ env∈(cxOf (CXE P w) P w K mg base N qual scope f cd A outer s H E).stack,∀ b,env.frame=some b→b∈frs (cxOf (CXE P w) P w K mg base N qual scope f cd A outer s H E).stack:=fun env he b hb=>List.mem_filterMap.mpr ⟨env,he,hb⟩
  have ff:=PySem.W.funFrames_hide fs hin
  have st:(PySem.W.hideAll s1.heap (frs (cxOf (CXE P w) P w K mg base N qual scope f cd A outer s H E).stack)).StaysIn s1.heap:=fun b o z=>PySem.W.of_hideAll _ z
  have I1:Inv _ pins σ H1 { s1 with heap:=h1 }:=I.kept (h':=h1) (t':=s1.toks) mx.keeps
  have un1:Un (frs (cxOf (CXE P w) P w K mg base N qual scope f cd A outer s H E).stack) [] H1 H1 s1.heap h1:=Un.kept mx.keeps
  have tr:∀ b,H1 b≠none→∃ o,(PySem.W.hideAll s1.heap (frs (cxOf (CXE P w) P w K mg base N qual scope f cd A outer s H E).stack)).get? b=some o:=fun b n=>by
    cases z:H1 b with
    | none=>exact absurd z n
    | some u =>
      obtain ⟨o,e⟩:=(I.hok b u z).there
      exact ⟨o,PySem.W.hideAll_get _ e fun m=>by rw [I.stkFree b m] at z; cases z⟩
  have el:∀ b o,s1.heap.get? b=some o→b ∉ frs (cxOf (CXE P w) P w K mg base N qual scope f cd A outer s H E).stack→∃ o',(PySem.W.hideAll s1.heap (frs (cxOf (CXE P w) P w K mg base N qual scope f cd A outer s H E).stack)).get? b=some o' :=
    fun b o e n=>⟨o,PySem.W.hideAll_get _ e n⟩
  refine wpAny_leaves_madeW (base:=PySem.W.hideAll s1.heap (frs (cxOf (CXE P w) P w K mg base N qual scope f cd A outer s H E).stack)) (L:=s.heap.objs.size) I.ok.frames rfl st ff mx fun h' t fl' _ _ up=>?_
  have k1:(PySem.W.hideAll s1.heap (frs (cxOf (CXE P w) P w K mg base N qual scope f cd A outer s H E).stack)).StaysIn h1:=fun b o z=>mx.keeps b o (st b o z)
  have ff1:h1.FunFrames (PySem.W.hideAll s1.heap (frs (cxOf (CXE P w) P w K mg base N qual scope f cd A outer s H E).stack)) (cxOf (CXE P w) P w K mg base N qual scope f cd A outer s H E).stack:=ff.of_keeps fun b o z _=>⟨o,mx.keeps b o z,rfl⟩
  obtain ⟨un',hok'⟩:=fly_turn un1 I1.hok tr el k1 fl'.1 ff1 up
  have I':=I.call (h':=h') (g':=s1.gens) (d':=s1.drawn) (t':=s1.toks) (ch:=[]) un' hok' I.bare (fun b z=>absurd z (by simp))
  refine ⟨e,cls,H1,rfl,I.os,I.bare,I'.base,hok',⟨_,.ref t,fl',tr,fun b o e' nb=>?_⟩,q⟩
  obtain ⟨o1,e1⟩:=I.base.there b o e' (fun z=>nomatch z)
  refine el b o1 e1 fun z=>?_
  rcases List.mem_cons.mp (I.stkSub b z) with z' | z'
  · rw [z'] at e'
    exact absurd (Heap.lt_size e') (Nat.lt_irrefl _)
  · exact nb z'
theorem own_cx:PassesOwn (model P w) (cxOf (CXE P w) P w K mg base N qual scope f cd A outer s H E).A (cxOf (CXE P w) P w K mg base N qual scope f cd A outer s H E).env (cxOf (CXE P w) P w K mg base N qual scope f cd A outer s H E).xe :=
  PassesOwn.leaving
end
def Rais (X:Cx) (E:XK):Prop:=∀ (pins:List (Addr × Obj)) (σ:St) (H:Hp) (s:Shared) (h1:Heap) (e:Addr) (cls:Value) (vs:List Value),Inv X pins σ H s→Heap.MadeExcOf s.heap h1 e cls vs→E cls none H→X.xe (.ref e) { s with heap:=h1 }
theorem own_obj {K:PySem.W.Frag} {h:Heap} {C:Addr} {bmB:List Value} {newId:String} (X:K.In h) (q:PySem.W.excIn K C bmB newId=true) :
    ∃ bm N nm q bs hdct sn sub ab col dd k0 k1 k2 k3 k5 mN,h.get? C=some (excClassObj nm q C N bs bm hdct sn sub ab col dd k0 k1 k2 k3 k5 newId)∧h.Ns N mN∧mN "__init__"=none∧OwnTail h bmB bm:=by
  unfold PySem.W.excIn at q
  split at q
  · rename_i dd cd sl ho
    split at q
    · rename_i C' bm k0 k1 k2 k3 n k5 hm hs
      simp only [Bool.and_eq_true,beq_iff_eq,Bool.not_eq_true'] at q
      obtain ⟨⟨⟨⟨⟨rfl,rfl⟩,hdel⟩,ht⟩,hok⟩,hni⟩:=q
      obtain ⟨nm,bs,mro,ns,qn,hd,sn,sub,ab,col,del⟩:=cd
      dsimp only at hm hdel hok hni
      subst hm hdel
      have hsl:sl=#[k0,k1,k2,k3,some (.builtin n),k5]:=by
        obtain ⟨l⟩:=sl
        simp only at hs
        rw [hs]
      subst hsl
      exact ⟨bm,ns,nm,qn,bs,hd,sn,sub,ab,col,dd,k0,k1,k2,k3,k5,_,X _ _ ho,.of_isNs (PySem.W.isNs_of_in X hok),PySem.W.nsMap_none_of_in X hok hni,PySem.W.tail_of_in X ht⟩
    · cases q
  · cases q
abbrev bmV:List Value:=[.type "ValueError",.type "Exception",.type "BaseException",.type "object"]
structure ExC (K:PySem.W.Frag) (mg:Str→Option Value) (x:Str) (C:Addr):Prop where
  mg:mg x=some (.ref C)
  ok:PySem.W.excIn K C bmV "ValueError.__new__"=true
def tRaise (C:Addr) (E:XK) (t:TA):TS:=fun _ σ H=>t σ H fun vs H1=>vs.length≤sizeLine∧E (.ref C) none H1
section
variable {X : Cx} {x : Str} {C : Addr} {E : XK} {e : Expr} {es : List Expr} {t : TA} {np cpos pos : Pos}
theorem ps_raise (hX:ExC X.K X.mg x C) (hc:X.calm=true) (hg:Gl X x) (hr:Rais X E) (ha:PA X (e :: es) t) (hd:(x == ("__debug__":Str))=false:=by decide)
    (he:starEach (e :: es) X.env=(false,eval e X.env) :: starEach es X.env:=by rfl) (hpl:(backTo cpos (starEach es X.env)).any (·.1)=false:=by rfl) :
    PS X (.Raise (some (.Call (.Name x np) (e :: es) [] cpos)) none pos) (tRaise C E t):=by
  intro pins s σ H D I h
  obtain ⟨tl,N,nm,q,bs,hdct,sn,sub,ab,col,dd,k0,k1,k2,k3,k5,mN,hC,hN,hni,T⟩:=own_obj I.mod.kin hX.ok
  refine wpAny_Raise_call_subT (C:=C) (nm:=nm) (q:=q) (N:=N) (bs:=bs) (bm:=tl) (hdct:=hdct) (sn:=sn) (sub:=sub) (ab:=ab) (col:=col) (dd:=dd) (k0:=k0) (k1:=k1) (k2:=k2) (k3:=k3) (k5:=k5)
    F.excBase_ValueError (mN:=mN) (T.hasType F.excBase_ValueError.hasBase) (I.ok.hd hc) (by rw [he]; show (false || (backTo cpos (starEach es X.env)).any (·.1))=false; rw [hpl]; rfl) hni (ld_glob I hg hX.mg ⟨rfl,?_⟩ hd)
  have hx:=ha cpos pins s σ H _ I h
  rw [he] at hx ⊢
  refine Calls.evalArgs_plain (thn hx fun us s2 ⟨vs,H2,I2,r,hl,q2⟩=>⟨rfl,?_,I2.bk _ _ hC,hN.keeps I2.bk,T.keeps I2.bk,fun h' e' mx=>hr pins σ H2 s2 h' e' (.ref C) us I2 mx q2⟩)
  show us.length≤sizeLine
  rw [← r.length]
  exact hl
end
end L2
namespace L2
open PySem PySem.Spec PyProof.Rows
abbrev Cx.tr (X:Cx) (asg:List Nat) (pn':List (Addr × Obj)) (k:Nat→Option V) (xe':Value→Shared→Prop):Cx :=
  { X with pn:=pn',kn:=fun i=>bif asg.contains i then Option.none else k i,xe:=xe' }
abbrev Cx.hd (X:Cx) (x:Addr) (pn':List (Addr × Obj)) (xe':Value→Shared→Prop):Cx :=
  { X with A:=X.A.mark (some (.ref x)),calm:=false,pn:=pn',kn:=fun _=>Option.none,xe:=xe' }
section
variable {X : Cx} {pins pn' : List (Addr × Obj)} {σ σ' : St} {H : Hp} {s : Shared} {asg : List Nat} {k : Nat → Option V} {xe' : Value → Shared → Prop} {x : Addr}
theorem Cx.Ok.tr (ok:X.Ok):(X.tr asg pn' k xe').Ok :=
  ⟨ok.mod,ok.kind,ok.glob,ok.blt,ok.above,ok.inj,ok.has,ok.cab,ok.hd,ok.frames,ok.stk,ok.exf,ok.bs,ok.bsz,ok.noex,ok.exfs,ok.funs,ok.frf⟩
theorem Cx.Ok.untr (ok:(X.tr asg pn' k xe').Ok):X.Ok :=
  ⟨ok.mod,ok.kind,ok.glob,ok.blt,ok.above,ok.inj,ok.has,ok.cab,ok.hd,ok.frames,ok.stk,ok.exf,ok.bs,ok.bsz,ok.noex,ok.exfs,ok.funs,ok.frf⟩
theorem Cx.Ok.inhd (ok:X.Ok):(X.hd x pn' xe').Ok :=
  ⟨ok.mod,ok.kind,ok.glob,ok.blt,ok.above,ok.inj,ok.has,ok.cab,(fun z=>nomatch z),ok.frames,ok.stk,ok.exf,ok.bs,ok.bsz,ok.noex,ok.exfs,ok.funs,ok.frf⟩
theorem Inv.tr (I:Inv X pins σ H s):Inv (X.tr asg (X.pn ++ pins) (fun i=>(σ[i]?).join) xe') [] σ H s :=
  ⟨I.ok.tr,I.os,I.bare,I.base,I.loc,I.cell,I.free,I.freeC,fun p hp=>I.pin p (by rw [List.append_nil] at hp; exact hp),I.hok,I.len,fun i v z=>by
    have z':(bif asg.contains i then Option.none else (σ[i]?).join)=some v:=z
    cases q:asg.contains i with
    | true=>rw [q] at z'; cases z'
    | false =>
      rw [q] at z'
      cases q2:σ[i]? with
      | none=>rw [q2] at z'; cases z'
      | some o =>
        rw [q2] at z'
        cases o with
        | none=>cases z'
        | some u=>cases z'; rfl⟩
theorem Inv.untr {p2:List (Addr × Obj)} (I:Inv (X.tr asg (X.pn ++ pins) k xe') p2 σ H s) (hk:∀ i,X.kn i=Option.none):Inv X pins σ H s :=
  ⟨I.ok.untr,I.os,I.bare,I.base,I.loc,I.cell,I.free,I.freeC,fun p hp=>I.pin p (List.mem_append_left _ hp),I.hok,I.len,fun i v z=>by rw [hk i] at z; cases z⟩
theorem Inv.inhd (I:Inv X pins σ H s):Inv (X.hd x (X.pn ++ pins) xe') [] σ H s :=
  ⟨I.ok.inhd,I.os,I.bare,I.base,I.loc,I.cell,I.free,I.freeC,fun p hp=>I.pin p (by rw [List.append_nil] at hp; exact hp),I.hok,I.len,fun i v z=>nomatch z⟩
theorem Inv.unhd {p2:List (Addr × Obj)} (ok:X.Ok) (I:Inv (X.hd x (X.pn ++ pins) xe') p2 σ H s) (hk:∀ i,X.kn i=Option.none):Inv X pins σ H s :=
  ⟨ok,I.os,I.bare,I.base,I.loc,I.cell,I.free,I.freeC,fun p hp=>I.pin p (List.mem_append_left _ hp),I.hok,I.len,fun i v z=>by rw [hk i] at z; cases z⟩
theorem Inv.adopt {o:HO} (I:Inv X pins σ H s) (hx:H x=none) (ok:ObjOk X.prog X.w (upd H x o) s.heap x o) (h0:X.s₀.heap.get? x=none) (hL:x≠X.env.locals)
    (hC:∀ y c,X.env.cells.lookup y=some c→c≠x) (hp:∀ p∈X.pn ++ pins,p.1≠x):Inv X pins σ (upd H x o) s:=by
  have nx:∀ b u,H b=some u→b≠x:=fun b u e z=>by rw [z,hx] at e; cases e
  refine ⟨I.ok,I.os,I.bare,⟨I.base.keep,I.base.slot,fun b ob e n hb=>?_,I.base.there,fun b xs e=>?_,fun b ob u e=>?_,fun b ps e=>?_⟩,I.loc,I.cell,?_,fun y c e=>?_,fun p hq=>?_,fun b u e=>?_,I.len,I.kno⟩
  · have z:b≠x:=fun z=>by rw [z,h0] at e; cases e
    rw [upd_ne z]; exact I.base.free b ob e n hb
  · have z:=I.base.tups b xs e
    rw [upd_ne (nx _ _ z)]; exact z
  · have z:=I.base.frzs b ob u e
    rw [upd_ne (nx _ _ z)]; exact z
  · obtain ⟨m,z⟩:=I.base.tbls b ps e
    exact ⟨m,by rw [upd_ne (nx _ _ z)]; exact z⟩
  · rw [upd_ne (Ne.symm hL)]; exact I.free
  · rw [upd_ne (hC y c e)]; exact I.freeC y c e
  · obtain ⟨e1,e2,e3⟩:=I.pin p hq
    exact ⟨e1,by rw [upd_ne (hp p hq)]; exact e2,e3⟩
  · by_cases hb:b=x
    · subst hb
      rw [upd_same] at e
      cases e
      exact ok
    · rw [upd_ne hb] at e
      exact (I.hok b u e).stay (fun _ _ _ q=>q) (fun c q=>by rw [upd_ne (nx _ _ q)]; exact q) fun c xs q=>by rw [upd_ne (nx _ _ q)]; exact q
end
def maskF (asg:List Nat):Nat→St→St
  | _,[]=>[]
  | i,o :: r=>(bif asg.contains i then Option.none else o) :: maskF asg (i + 1) r
theorem maskF_len (asg:List Nat):∀ (j:Nat) (σ:St),(maskF asg j σ).length=σ.length
  | _,[]=>rfl
  | j,_ :: r=>by simp only [maskF,List.length_cons,maskF_len asg (j + 1) r]
theorem maskF_get (asg:List Nat):∀ (j:Nat) (σ:St) (i:Nat) (v:V),(maskF asg j σ)[i]?=some (some v)→asg.contains (j + i)=false∧σ[i]?=some (some v)
  | _,[],i,v,e=>by simp [maskF] at e
  | j,o :: r,0,v,e=>by
    simp only [maskF,List.getElem?_cons_zero,Option.some.injEq] at e
    cases q:asg.contains j with
    | true=>rw [q] at e; cases e
    | false=>rw [q] at e; exact ⟨by first | rfl | exact q,by rw [List.getElem?_cons_zero]; exact congrArg some e⟩
  | j,o :: r,i + 1,v,e=>by
    simp only [maskF,List.getElem?_cons_succ] at e
    obtain ⟨a,b⟩:=maskF_get asg (j + 1) r i v e
    exact ⟨by rw [show j + (i + 1)=j + 1 + i by omega]; exact a,by rw [List.getElem?_cons_succ]; exact b⟩
def ExcAt (x:Addr) (cls:Value) (h:Heap):Prop:=∃ oe vs,h.get? x=some oe∧oe.cls=cls∧oe.data=.fields vs
theorem excAt_ext {P:Program} {w:World} {H:Hp} {h:Heap} {x:Addr} {cls:Value} (e:ExcAt x cls h):ObjOk P w H h x (.ext (ExcAt x cls)) :=
  ⟨e,(let ⟨oe,_,e1,_⟩:=e; ⟨oe,e1⟩),fun _ _ ⟨oe,vs,e1,e2,e3⟩ k=>⟨oe,vs,k oe e1,e2,e3⟩⟩
structure Landed (X:Cx) (pins:List (Addr × Obj)) (asg:List Nat) (σ:St) (E:XK) (x:Addr) (cls:Value) (H':Hp) (s:Shared):Prop where
  inv:Inv X pins (maskF asg 0 σ) H' s
  new:H' x=none
  at_:ExcAt x cls s.heap
  h0:X.s₀.heap.get? x=none
  hL:x≠X.env.locals
  hC:∀ y c,X.env.cells.lookup y=some c→c≠x
  hp:∀ p∈X.pn ++ pins,p.1≠x
  want:E cls none H'
theorem Landed.adopted {X:Cx} {pins:List (Addr × Obj)} {asg:List Nat} {σ:St} {E:XK} {x:Addr} {cls:Value} {H':Hp} {s:Shared} (L:Landed X pins asg σ E x cls H' s) :
    Inv X pins (maskF asg 0 σ) (upd H' x (.ext (ExcAt x cls))) s:=L.inv.adopt L.new (excAt_ext L.at_) L.h0 L.hL L.hC L.hp
section
variable {X : Cx} {pins : List (Addr × Obj)} {σ : St} {H : Hp} {s : Shared} {asg : List Nat} {E : XK} {hs : List ExceptHandler} {Q : Flow → Shared → Prop}
theorem look_at (I:Inv X pins σ H s) (hex:X.ex=[]) (hst:X.stack=X.env :: X.outer∧X.env.frame=some X.env.locals) (hk:∀ i,X.kn i=Option.none)
    (hh:∀ (x:Addr) (cls:Value) (H':Hp) (B:Heap) (a0:Value) (s':Shared),Heap.FlyingW B X.stack x cls a0 s'.heap→Landed X pins asg σ E x cls H' s' →
      (∀ h'',Heap.FlyingW B X.stack x cls a0 h''→s'.heap.UpToSlots h''→Landed X pins asg σ E x cls H' { s' with heap:=h'' }) →
      wpAny (model X.prog X.w) X.A (handleBy (.ref x) X.env hs) Q X.xe s') :
    Passes (CXE X.prog X.w) (X.tr asg (X.pn ++ pins) (fun i=>(σ[i]?).join) (fun e s₁=>wpAny (model X.prog X.w) X.A (noteFrame e X.env) (fun _ s₂=>wpAny (model X.prog X.w) X.A (setFlight e none) (fun _ s₃ =>
      wpAny (model X.prog X.w) X.A (handleBy e X.env hs) Q X.xe s₃) X.xe s₂) X.xe s₁)) E:=by
  intro pins1 σ1 H1 s1 e s' I1 hc
  obtain ⟨x,cls,H',rfl,os,bare,un,hok,⟨B,a0,fl,t,el⟩,q⟩:=hc
  have un:Un (frs X.stack) [] H1 H' s1.heap s'.heap:=un
  have fl:Heap.FlyingW B X.stack x cls a0 s'.heap:=fl
  have el:∀ b o,s1.heap.get? b=some o→b ∉ frs X.stack→∃ o',B.get? b=some o':=el
  have notB:∀ b o,B.get? b=some o→b≠x:=fun b o e z=>by rw [z,fl.2.1] at e; cases e
  have H'x:H' x=none:=by
    cases z:H' x with
    | none=>rfl
    | some u =>
      obtain ⟨o,e⟩:=t x (by rw [z]; exact fun q=>nomatch q)
      exact absurd rfl (notB x o e)
  have nfr:x ∉ frs X.stack:=fun m=>by
    obtain ⟨oe,vs,h1,_,h3,_⟩:=fl.first
    obtain ⟨_,o,h5,d⟩:=fl.2.2.1.mem m
    rw [h1] at h5
    cases h5
    exact d vs h3
  have old:∀ o,s1.heap.get? x=some o→False:=fun o e=>by
    obtain ⟨o2,e2⟩:=el x o e nfr
    exact notB x o2 e2 rfl
  have x0:X.s₀.heap.get? x=none:=by
    cases z:X.s₀.heap.get? x with
    | none=>rfl
    | some o =>
      obtain ⟨o1,e1⟩:=I1.base.there x o z (fun w=>by rw [show (X.tr asg (X.pn ++ pins) (fun i=>(σ[i]?).join) _).ex=X.ex from rfl,hex] at w; cases w)
      exact (old o1 e1).elim
  have xL:x≠X.env.locals:=fun z=>nfr (by rw [z,hst.1]; exact List.mem_filterMap.mpr ⟨X.env,.head _,hst.2⟩)
  have xC:∀ y c,X.env.cells.lookup y=some c→c≠x:=fun y c e z=>by
    obtain ⟨v,oc,ec,_⟩:=I1.cell y c e
    rw [z] at ec
    exact old oc ec
  have xP:∀ p∈X.pn ++ pins,p.1≠x:=fun p hp z=>by
    have e:=(I1.pin p (List.mem_append_left _ hp)).1
    rw [z] at e
    exact old _ e
  have land:∀ h'',Heap.FlyingW B X.stack x cls a0 h''→s'.heap.UpToSlots h''→Landed X pins asg σ E x cls H' { s' with heap:=h'' }:=fun h'' fl'' up=>by
    obtain ⟨un'',hok''⟩:=fly_turn un hok t el fl.1 fl''.1 fl.2.2.1 up
    have I2:=I1.call (h':=h'') (g':=s'.gens) (d':=s'.drawn) (t':=s'.toks) (ch:=[]) un'' hok'' bare (fun b z=>absurd z (by simp))
    have I3:Inv X pins σ1 H' { s1 with heap:=h'',gens:=s'.gens,drawn:=s'.drawn,toks:=s'.toks }:=I2.untr hk
    have es:({ s1 with heap:=h'',gens:=s'.gens,drawn:=s'.drawn,toks:=s'.toks }:Shared)={ s' with heap:=h'' }:=by
      obtain ⟨_,_,_,_,o1⟩:=s1
      obtain ⟨_,_,_,_,o2⟩:=s'
      have z:o2=o1:=os
      subst z
      rfl
    rw [es] at I3
    obtain ⟨oe,vs,h1,h2,h3,_⟩:=fl''.first
    refine ⟨I3.weak (by rw [maskF_len,I.len,I3.len]) (fun i v z=>?_) (fun i v z=>by rw [hk i] at z; cases z),H'x,⟨oe,vs,h1,h2,h3⟩,x0,xL,xC,xP,q⟩
    obtain ⟨a,b⟩:=maskF_get asg 0 σ i v z
    rw [Nat.zero_add] at a
    refine I2.kno i v ?_
    show (bif asg.contains i then Option.none else (σ[i]?).join)=some v
    rw [a,b]
    rfl
  have frames:X.A.frames=some (X.env :: X.outer):=by rw [← hst.1]; exact I.ok.frames
  rw [hst.1] at fl
  refine wpAny_looks_onW (base:=B) (L:=X.env.locals) frames hst.2 fl fun h4 held up4=>?_
  refine wpAny_landsW held fun h5 fl5 up5=>?_
  rw [← hst.1] at fl5
  refine hh x cls H' B a0 _ fl5 (land h5 fl5 (up4.trans up5)) fun h'' fl'' up=>?_
  exact land h'' fl'' ((up4.trans up5).trans up)
end
section
variable {X : Cx} {x : Str} {C : Addr} {E : XK} {body : List Stmt} {b0 : Stmt} {suite : List Stmt} {asg : List Nat} {np hpos pos : Pos} {tb : List (Addr × Obj) → (Nat → Option V) → (Value → Shared → Prop) → TS} {th : Addr → List (Addr × Obj) → TS}
def tTryB (K:PySem.W.Frag) (C:Addr) (E:XK) (asg:List Nat) (tb:List (Addr × Obj)→(Nat→Option V)→(Value→Shared→Prop)→TS) (th:Addr→List (Addr × Obj)→TS):TS:=fun D σ H =>
  (∀ pn k xe,tb pn k xe D σ H)∧∀ cls H' x,E cls none H'→H' x=none→PySem.W.exmOne K cls (.ref C)=some true∧∀ pn,th x pn D (maskF asg 0 σ) (upd H' x (.ext (ExcAt x cls)))
theorem excAt_looks {M:Model} {h:Heap} {x:Addr} {cls:Value} (e:ExcAt x cls h):PySem.W.Looks M h (typeOf (.ref x)) cls:=by
  obtain ⟨oe,vs,h1,h2,_⟩:=e
  exact h2 ▸ (PySem.W.Looks.ld h1).andThen .now
theorem ps_tryB (hm:X.mg x=some (.ref C)) (hg:Gl X x) (hex:X.ex=[]) (hst:X.stack=X.env :: X.outer∧X.env.frame=some X.env.locals) (hk:∀ i,X.kn i=Option.none)
    (hb:∀ pn k xe,Passes (CXE X.prog X.w) (X.tr asg pn k xe) E→PassesOwn (model X.prog X.w) X.A X.env xe→PSs (X.tr asg pn k xe) body (tb pn k xe))
    (hh:∀ y pn,PSs (X.hd y pn fun _ _=>False) (b0 :: suite) (th y pn)) (hd:(x == ("__debug__":Str))=false:=by decide) :
    PS X (.Try body [.ExceptHandler (some (.Name x np)) none (b0 :: suite) hpos] [] [] pos) (tTryB X.K C E asg tb th):=by
  intro pins s σ H D I h
  refine wpAny_Try_except ?_
  have hx:=look_at (asg:=asg) (E:=E) (hs:=[.ExceptHandler (some (.Name x np)) none (b0 :: suite) hpos]) (Q:=SP X pins D) I hex hst hk fun y cls H' B a0 s' fl L land=>?_
  · refine wpAny_mono (hb _ _ _ hx PassesOwn.looking [] s σ H D I.tr (h.1 _ _ _)) (fun f s1 q=>?_) fun _ _ z=>z
    cases f with
    | next=>obtain ⟨σ',H',I',q⟩:=q; exact wpAny_execs_nil ⟨σ',H',I'.untr hk,q⟩
    | brk=>obtain ⟨σ',H',I',q⟩:=q; exact ⟨σ',H',I'.untr hk,q⟩
    | cont=>obtain ⟨σ',H',I',q⟩:=q; exact ⟨σ',H',I'.untr hk,q⟩
    | ret u=>obtain ⟨v,σ',H',I',r,q⟩:=q; exact ⟨v,σ',H',I'.untr hk,r,q⟩
  · obtain ⟨em,hq⟩:=h.2 cls H' y L.want L.new
    refine wpAny_handleBy_cons (codeAny_handlers_test ?_) (by intro q; cases q)
    refine ld_glob (X:=X.hd y (X.pn ++ pins) fun _ _=>False) L.inv.inhd hg hm ?_ hd
    refine (PySem.W.exm_one L.inv.kIn (excAt_looks L.at_) em).here ?_
    refine codeAny_handlers_suite ?_
    refine lands_againW fl fun h6 fl6 up6=>?_
    have L6:=land h6 fl6 up6
    refine wpAny_mono (hh y (X.pn ++ pins) [] _ _ _ D L6.adopted.inhd (hq _)) (fun f s1 q=>?_) fun _ _ z=>False.elim z
    have ok:=I.ok
    cases f with
    | next=>obtain ⟨σ',H2,I',q⟩:=q; exact ⟨σ',H2,I'.unhd ok hk,q⟩
    | brk=>obtain ⟨σ',H2,I',q⟩:=q; exact ⟨σ',H2,I'.unhd ok hk,q⟩
    | cont=>obtain ⟨σ',H2,I',q⟩:=q; exact ⟨σ',H2,I'.unhd ok hk,q⟩
    | ret u=>obtain ⟨v,σ',H2,I',r,q⟩:=q; exact ⟨v,σ',H2,I'.unhd ok hk,r,q⟩
end
end L2
namespace L2
open PySem PySem.Spec PyProof.Rows
structure ExK (K:PySem.W.Frag) (C:Addr):Prop where
  cl:(PySem.W.clsIn K C).isSome=true
  ga:PySem.W.findIn K (.ref C) "__getattribute__"=some (some (.builtin "BaseException.__getattribute__"))
  gn:PySem.W.findIn K (.ref C) "__getattr__"=some none
  kl:PySem.W.findIn K (.ref C) "__class__"=some (some (.builtin "object.__class__"))
  sub:PySem.W.subIn K (.ref C) (.type "BaseException")=some true
  ob:PySem.W.subIn K (.ref C) (.type "object")=some true
section
variable {prog : Program} {w : World} {A : Around} {E : Value → Shared → Prop} {h : Heap} {g : Array GenState} {d : Drawn} {t : Nat} {os : OsState} {a C : Addr} {o : Obj} {K : PySem.W.Frag} {vs : Array Value}
theorem class_get_exc {R:Result→Shared→Prop} (X:K.In h) (k:ExK K C) (hx:h.get? a=some o) (hc:o.cls=.ref C) (hq:R (.ok (.ret (.ref C))) ⟨h,g,d,t,os⟩) :
    codeAny (model prog w) A (.call (.builtin "getset_descriptor.__get__") ⟨[.builtin "object.__class__",.ref a,.ref C],[]⟩) R ⟨h,g,d,t,os⟩:=by
  have hT5:(⟨h,g,d,t,os⟩:Shared).TypeIs (.builtin "object.__class__") "getset_descriptor":=F.typeOf_object_class
  have LS:PySem.W.Looks (model prog w) h (isSubtype (.ref C) (.type (".".intercalate ("object.__class__".cutAt '.').dropLast))) true:=by
    rw [F.owner_object_class]; exact PySem.W.looks_subIn X k.ob
  refine codeAny_call_builtin F.slot_gs_get.plain F.entry_gs_get (F.slot_gs_get.check _ _ _ _ _ _ _ _ hT5 (F.args_gs_get _ _ _) ?_)
  repeat (any_goals (first | assumption | (with_reducible refine wpAny_loadPart_at hx ?_; rw [hc]) | (with_reducible refine wpAny_bind (LS.at ?_)) | (with_reducible refine LS.at ?_) | wp_step))
  refine ⟨Code.quiet_builtin _ (by decide +kernel),codeAny_builtin F.entry_object_class ?_⟩
  repeat (any_goals (first | assumption | (with_reducible refine wpAny_loadPart_at hx ?_; rw [hc]) | wp_step))
end
end L2
namespace L2
open PySem PySem.Spec PyProof.Rows
section
variable {prog : Program} {w : World} {A : Around} {E : Value → Shared → Prop} {h : Heap} {g : Array GenState} {d : Drawn} {t : Nat} {os : OsState} {a C : Addr} {o : Obj} {K : PySem.W.Frag} {vs : Array Value}
theorem class_entry_exc {tk:Tok} {Q:Fin→Shared→Prop} (X:K.In h) (k:ExK K C) (hx:h.get? a=some o) (hc:o.cls=.ref C) (hq:Q (.done (.ret (.ref C))) ⟨h,g,d,t,os⟩) :
    wpAny (model prog w) A (Builtin.«object.__getattribute__» ⟨[.ref a,.str "__class__" tk],[]⟩) Q E ⟨h,g,d,t,os⟩:=by
  have hT5:(⟨h,g,d,t,os⟩:Shared).TypeIs (.builtin "object.__class__") "getset_descriptor":=F.typeOf_object_class
  have L4:=PySem.W.looks_findIn (M:=model prog w) X k.kl
  have f5:=F.typeOf_object_class
  have f6:=F.slot_gs_get.lookup
  have f7:=F.slot_gs_set.lookup
  repeat (any_goals (first | assumption | (with_reducible refine wpAny_loadPart_at hx ?_; rw [hc]) | (with_reducible refine wpAny_bind (L4.at ?_)) | wp_step))
  refine class_get_exc X k hx hc ?_
  repeat (any_goals (first | assumption | wp_step))
theorem class_check_exc {M:Model} {nameV:Value} {Q:Unit→Shared→Prop} (X:K.In h) (k:ExK K C) (hx:h.get? a=some o) (hc:o.cls=.ref C) (hq:Q () ⟨h,g,d,t,os⟩) :
    wpAny M A (checkBuiltinCall "BaseException.__getattribute__" ⟨[.ref a,nameV],[]⟩) Q E ⟨h,g,d,t,os⟩:=by
  have hk:builtinKind "BaseException.__getattribute__"=some .slot:=by decide +kernel
  have hsplit:splitId "BaseException.__getattribute__"=some ("BaseException","__getattribute__"):=by decide +kernel
  have LS:=PySem.W.looks_subIn (M:=M) X k.sub
  have ha:=F.args_bexc_ga (.ref a) nameV
  simp only [checkBuiltinCall,hk,hsplit]
  refine wpAny_bind ?_
  · unfold isInstance
    repeat (first | (with_reducible refine wpAny_loadPart_at hx ?_; rw [hc]) | (with_reducible refine wpAny_bind (LS.at ?_)) | (with_reducible refine LS.at ?_) | wp_step)
    exact hq
theorem class_call_exc {tk:Tok} {R:Result→Shared→Prop} (X:K.In h) (k:ExK K C) (hx:h.get? a=some o) (hc:o.cls=.ref C) (hq:R (.ok (.ret (.ref C))) ⟨h,g,d,t,os⟩) :
    codeAny (model prog w) A (.call (.builtin "BaseException.__getattribute__") ⟨[.ref a,.str "__class__" tk],[]⟩) R ⟨h,g,d,t,os⟩ :=
  codeAny_call_builtin F.attr_ValueError.ga.plain F.entry_bexc_ga (class_check_exc X k hx hc (class_entry_exc X k hx hc hq))
theorem class_by_exc {tk:Tok} {Q:Value→Shared→Prop} (X:K.In h) (k:ExK K C) (hx:h.get? a=some o) (hc:o.cls=.ref C) (hq:Q (.ref C) ⟨h,g,d,t,os⟩) :
    wpAny (model prog w) A (getAttrBy (.ref a) (.str "__class__" tk) false) Q E ⟨h,g,d,t,os⟩:=by
  have f3:=F.attr_ValueError.ga.bind (.ref a)
  have L1:=PySem.W.looks_findIn (M:=model prog w) X k.ga
  have L2:=PySem.W.looks_findIn (M:=model prog w) X k.gn
  have hx2:(Value.builtin "BaseException.__getattribute__" == Value.builtin "object.__getattribute__")=false:=by decide +kernel
  have hx1:(onTheHeap (Value.ref C) && Value.builtin "BaseException.__getattribute__" == Value.builtin "object.__getattribute__")=false:=by rw [hx2]; rfl
  repeat (any_goals (first | assumption | (with_reducible refine wpAny_loadPart_at hx ?_; rw [hc]) | (with_reducible refine wpAny_bind (L1.at ?_)) | (with_reducible refine wpAny_bind (L2.at ?_)) | wp_step))
  refine class_call_exc X k hx hc ?_
  repeat (any_goals (first | assumption | wp_step))
theorem class_attr_exc {Q:Option Value→Shared→Prop} (X:K.In h) (k:ExK K C) (hx:h.get? a=some o) (hc:o.cls=.ref C) (hq:Q (some (.ref C)) ⟨h,g,d,t + 1,os⟩) :
    wpAny (model prog w) A (getAttr? (.ref a) "__class__") Q E ⟨h,g,d,t,os⟩:=by
  unfold getAttr? getAttrBy?
  repeat (any_goals (first | assumption | with_reducible apply class_by_exc X k hx hc | wp_step))
end
theorem kitx_exc {K:PySem.W.Frag} {a C:Addr} (k:ExK K C):PySem.W.KitX K (.ref a) (.ref C) (ExcAt a (.ref C)) where
  ty:=fun _ _ _ e=>excAt_looks e
  it:=fun _ _ X _=>by
    have hcD:=k.cl
    unfold PySem.W.clsIn at hcD
    split at hcD
    · rename_i c' d' cd' sl' ho
      intro A' Q' E' s' kk q
      unfold isType loadHead
      exact wpAny_bind (wpAny_loadPart (kk _ _ (X _ _ ho)) (wpAny_pure q))
    · cases hcD
  ne:=fun h tp dd its n sl X htp=>by
    have hcD:=k.cl
    refine Bool.eq_false_iff.mpr fun q=>?_
    have e:C=tp:=Value.ref.inj (beq_iff_eq.mp q)
    subst e
    unfold PySem.W.clsIn at hcD
    split at hcD
    · rename_i c' d' cd' sl' ho
      have z:=(X _ _ ho).symm.trans htp
      cases z
    · cases hcD
  ca:=fun {_ _ _ _ _ s} X e q=>by
    obtain ⟨oe,vs,h1,h2,_⟩:=e
    obtain ⟨h,g,d,t,os⟩:=s
    exact class_attr_exc X k h1 h2 q
inductive TyX (K:PySem.W.Frag) (H:Hp):V→Value→Prop where
  | of {x:V} {t:Value} (e:TyOf K H x t):TyX K H x t
  | exc {a C:Addr} (e:H a=some (.ext (ExcAt a (.ref C)))) (k:ExK K C):TyX K H (.ref a) (.ref C)
def clsV:V→Option Value
  | .ty n=>some (.type n)
  | .ref a=>some (.ref a)
  | _=>none
theorem clsV_rel {v:V} {c u:Value} (e:clsV v=some c) (r:RelV v u):u=c:=by
  cases v <;> cases e <;> exact r
theorem call_isinst {X:Cx}:CallR X (.builtin "isinstance") (fun xs H Q=>∃ x cv c t b,xs=[x,cv]∧clsV cv=some c∧TyX X.K H x t∧PySem.W.kitOne X.K t c=some b∧Q (.bl b) H):=by
  intro pins s σ H xs us Q I r h
  obtain ⟨x,cv,c,t,b,rfl,ec,ty,ek,q⟩:=h
  obtain ⟨u,u2,rfl,rx,rc⟩:=vals2 r
  obtain rfl:=clsV_rel ec rc
  cases ty with
  | of ty=>exact isinst_ok I rx ty ek fun tk=>⟨.bl b,H,I.tok tk,rfl,q⟩
  | @exc a C e k =>
    cases (show u=Value.ref a from rx)
    obtain ⟨ea,_,_⟩:=(show ObjOk X.prog X.w H s.heap a (.ext (ExcAt a (.ref C))) from I.hok a _ e)
    exact PySem.W.kia_one (kitx_exc k) I.kIn ea ek (fun z=>nomatch z) fun tk=>⟨.bl b,H,I.tok tk,rfl,q⟩
def CDivX (i j:Int):Prop:=0 < j∧j.natAbs.log2 < 9000
section
variable {X : Cx}
theorem op_fdivX:OpR X (binaryOp .FloorDiv) (rI CDivX fun i j=>.int (i / j)):=opI fun i j _ _ _ _ _ hc q=>by
  refine floordiv_int (by have:=hc.1; omega) ?_ (.inl (PyProof.noPylong_of_log2 hc.2))
  rw [Int.fdiv_eq_ediv_of_nonneg _ (by have:=hc.1; omega)]
  exact q
theorem op_mulX:OpR X (binaryOp .Mult) (rI IntMulOk fun i j=>.int (i * j)):=opI fun i j _ _ _ _ _ hc q=>mul_int q hc
def eqVs:List V→List V→Bool
  | [],[]=>true
  | x :: xs,y :: ys=>eqV x y && eqVs xs ys
  | _,_=>false
theorem eqVs_range:∀ (xs ys:List V),((List.range (min xs.length ys.length)).all (fun j=>eqV (xs.getD j .non) (ys.getD j .non)) && xs.length == ys.length)=eqVs xs ys
  | [],[]=>rfl
  | [],_ :: _=>by simp [eqVs]
  | _ :: _,[]=>by simp [eqVs]
  | x :: xs,y :: ys=>by
    have ih:=eqVs_range xs ys
    simp only [List.length_cons,Nat.add_min_add_right,List.range_succ_eq_map,List.all_cons,List.all_map,List.getD_cons_zero,eqVs]
    rw [← ih]
    simp only [Function.comp_def,List.getD_cons_succ,Bool.and_assoc]
    congr 2
    simp
def rEqT (K:PySem.W.Frag):R2:=fun x y H Q=>∃ a b xs ys,x=.ref a∧y=.ref b∧SqT K H a xs∧SqT K H b ys∧xs.all flatV=true∧ys.all flatV=true∧Q (.bl (eqVs xs ys)) H
def rNeT (K:PySem.W.Frag):R2:=fun x y H Q=>∃ a b xs ys,x=.ref a∧y=.ref b∧SqT K H a xs∧SqT K H b ys∧xs.all flatV=true∧ys.all flatV=true∧Q (.bl (!eqVs xs ys)) H
theorem eqT_items {A:Around} {s:Shared} {xs ys:List V} {us ws:List Value} (r:Vals xs us) (q:Vals ys ws) (fx:xs.all flatV=true) (fy:ys.all flatV=true) :
    ∀ j (h1:j < us.toArray.size) (h2:j < ws.toArray.size),SeqAt.EqAt A s us.toArray[j] ws.toArray[j] (eqV (xs.getD j .non) (ys.getD j .non)):=fun j h1 h2=>by
  have l1:=r.length
  have l2:=q.length
  have h1':j < us.length:=by simpa using h1
  have h2':j < ws.length:=by simpa using h2
  have e1:xs[j]?=some (xs[j]'(by omega)):=List.getElem?_eq_getElem (by omega)
  have e2:ys[j]?=some (ys[j]'(by omega)):=List.getElem?_eq_getElem (by omega)
  obtain ⟨u,eu,ru⟩:=r.get e1
  obtain ⟨v,ev,rv⟩:=q.get e2
  have eu':us.toArray[j]=u:=by
    rw [List.getElem?_eq_getElem h1'] at eu
    simpa using Option.some.inj eu
  have ev':ws.toArray[j]=v:=by
    rw [List.getElem?_eq_getElem h2'] at ev
    simpa using Option.some.inj ev
  rw [eu',ev',List.getD_eq_getElem?_getD,List.getD_eq_getElem?_getD,e1,e2]
  exact eqAt_V ru rv (List.all_eq_true.mp fx _ (List.getElem_mem _)) (List.all_eq_true.mp fy _ (List.getElem_mem _))
theorem op_eqT (hu:X.A.units < cLine):OpR X (compareOp .Eq) (rEqT X.K):=by
  intro pins s σ H x y v u Q I rx ry h
  obtain ⟨a,b,xs,ys,rfl,rfl,ha,hb,fx,fy,q⟩:=h
  cases rx
  cases ry
  obtain ⟨us,r,pa,_⟩:=I.tuple ha
  obtain ⟨ws,r2,pb,_⟩:=I.tuple hb
  refine SeqAt.eq_tupleAt pa pb hu (eqT_items r r2 fx fy) ⟨.bl _,H,I,rfl,?_⟩
  rw [show us.toArray.size=xs.length by rw [r.length]; simp,show ws.toArray.size=ys.length by rw [r2.length]; simp,eqVs_range]
  exact q
theorem op_neT (hu:X.A.units < cLine):OpR X (compareOp .NotEq) (rNeT X.K):=by
  intro pins s σ H x y v u Q I rx ry h
  obtain ⟨a,b,xs,ys,rfl,rfl,ha,hb,fx,fy,q⟩:=h
  cases rx
  cases ry
  obtain ⟨us,r,pa,_⟩:=I.tuple ha
  obtain ⟨ws,r2,pb,_⟩:=I.tuple hb
  refine SeqAt.RcNeAt.tuples pa pb hu (eqT_items r r2 fx fy) _ _ _ _ ⟨.bl _,H,I,rfl,?_⟩
  rw [show us.toArray.size=xs.length by rw [r.length]; simp,show ws.toArray.size=ys.length by rw [r2.length]; simp,eqVs_range]
  exact q
end
section
variable {X : Cx} {e : Expr} {te : TE} {pos p3 p4 : Pos} {c : Str} {k : Nat}
def tFstr (c:Str) (te:TE):TE:=fun σ H Q=>c.length≤1000∧te σ H fun x H1=>∃ i,x=.int i∧i.natAbs.log2 < 1920∧∀ z:Str,Q (.str z) H1
theorem line4000 {n:Nat} (h:n≤4000):n≤sizeLine:=by rw [sizeLine_eq]; omega
theorem pe_fstr2 (he:PE X e te):PE X (.JoinedStr [.Constant (.str c) k p3,.FormattedValue e (-1) none p4] pos) (tFstr c te):=by
  intro pins s σ H Q I h
  obtain ⟨hc,h⟩:=h
  have z0:Str.empty.length=0:=rfl
  refine JoinedStr_many (joinParts_cons (Calls.Constant_str ?_))
  have I0:Inv X pins σ H { s with toks:=s.toks + 1 }:=I.tok _
  refine ⟨line4000 (by rw [strLen_append,z0]; omega),joinParts_cons (FormattedValue_plain (thn (he pins _ σ H _ I0 h) fun u s1 ⟨x,H1,I1,rx,i,ex,hi,q⟩=>?_))⟩
  subst ex
  obtain ⟨t,rfl⟩:=rx
  refine formatField_int_small hi ?_
  have hl:=int_text_length_le (k:=1920) (by decide) hi
  have hz:(Str.empty ++ c ++ Str.ofString (toString i)).length≤sizeLine:=line4000 (by rw [strLen_append,strLen_append,PySem.ofString_length,z0]; omega)
  exact ⟨hz,joinParts_nil ⟨.str _,H1,I1.tok _,⟨_,rfl⟩,q _⟩ hz⟩
end
end L2
namespace L2
open PySem PySem.Spec PyProof.Rows
structure Dn (P:Program) (w:World) (K:PySem.W.Frag) (mg:Str→Option Value) (base:Heap) (k:Nat) (x:Str) (ps:List Str) (sp:Sp):Prop where
  ex:∃ f fd,mg x=some (.ref f)∧PySem.W.keepIn K (.ref f)=true∧Binds K fd ps []∧FnOk P w K mg base (CXE P w) k f fd ps sp
structure Mth (P:Program) (w:World) (K:PySem.W.Frag) (mg:Str→Option Value) (base:Heap) (k:Nat) {ι:Type} (cl:ι→Addr) (m:Str) (ps:List Str) (sp:ι→Sp):Prop where
  ex:∀ i,Cls K (cl i)∧∃ f fd,Meth K (cl i) m f∧Binds K fd ps []∧FnOk P w K mg base (CXE P w) k f fd ps (sp i)
structure Mkr (P:Program) (w:World) (K:PySem.W.Frag) (mg:Str→Option Value) (base:Heap) (k:Nat) (x:Str) (C:Addr) (ps:List Str) (sp:Sp):Prop where
  mgx:mg x=some (.ref C)
  ex:∃ f fd,Mk K C f∧Binds K fd ps []∧FnOk P w K mg base (CXE P w) k f fd ps sp
structure Mk0 (K:PySem.W.Frag) (mg:Str→Option Value) (x:Str) (C:Addr):Prop where
  mgx:mg x=some (.ref C)
  makes:PySem.W.makesIn K C=true
  init:PySem.W.findIn K (.ref C) "__init__"=some (some (.builtin "object.__init__"))
  kp:PySem.W.keepIn K (.ref C)=true
theorem passE0 {P:Program} {w:World} {X:Cx}:Passes (CXE P w) X E0:=fun _ _ _ _ _ _ _ ⟨_,_,_,_,_,_,_,_,_,q⟩=>q.elim
section
variable {X : Cx} {k : Nat} {C : Addr} {ι : Type} {cl : ι → Addr} {ps : List Str} {sp : Sp} {spi : ι → Sp} {E : XK} {x m : Str} {p pos apos : Pos} {e o : Expr} {es : List Expr} {ta : TE} {t : TA}
def tCallD (sp:Sp) (E:XK) (t:TA):TE:=fun σ H Q=>t σ H fun vs H1=>sp vs H1 Q E
theorem pe_callD (D:Dn X.prog X.w X.K X.mg X.base k x ps sp) (hr:Room k X.A) (hg:Gl X x) (hx:Passes (CXE X.prog X.w) X E) (ha:PA X (e :: es) t) (hdb:(x == ("__debug__":Str))=false:=by decide)
    (he:starEach (e :: es) X.env=(false,eval e X.env) :: starEach es X.env:=by rfl) (hpl:(backTo pos (starEach es X.env)).any (·.1)=false:=by rfl):PE X (.Call (.Name x p) (e :: es) [] pos) (tCallD sp E t):=by
  obtain ⟨f,fd,hm,hk,hb,F⟩:=D.ex
  have z:=pe_call (p:=p) (pos:=pos) F hr hg hm hk hb .nil hx ha hdb he hpl
  unfold tCall at z
  simp only [List.append_nil] at z
  exact z
def tMethV {ι:Type} (cl:ι→Addr) (m:Str) (sp:ι→Sp) (E:XK) (ta:TE) (t:TA):TE:=fun σ H Q=>ta σ H fun x H1=>∃ i a dx fs,x=.ref a∧H1 a=some (.ins (cl i) dx fs)∧fs.lookup m=none∧t σ H1 fun vs H2=>sp i (x :: vs) H2 Q E
theorem pe_methV {pl:Sem Bool} (he:PE X o ta) (V:Mth X.prog X.w X.K X.mg X.base k cl m ps spi) (hr:Room k X.A) (hx:Passes (CXE X.prog X.w) X E) (ha:PA X (e :: es) t)
    (hst:starEach (e :: es) X.env=(false,eval e X.env) :: starEach es X.env:=by rfl) (hpl:(backTo pos (starEach es X.env)).any (·.1)=false:=by rfl)
    (ht:eval (.Call (.Attribute o m apos) (e :: es) [] pos) X.env=(do
      let ov ← eval o X.env
      standAt apos.atName
      let (f,first) ← holding [ov] (getMethod ov m pl)
      callWith pos f first (backTo pos (starEach (e :: es) X.env)) (backToKw pos (keywordEach [] X.env))):=by rfl) :
    PE X (.Call (.Attribute o m apos) (e :: es) [] pos) (tMethV cl m spi E ta t):=by
  intro pins s σ H Q I h
  refine PySem.W.methodCall_KW (pl:=pl) (thn (he pins s σ H _ I h) fun u s1 ⟨x,H1,I1,rx,i,a,dx,fs,ex,ea,l,q⟩=>?_) ht
  subst ex
  obtain rfl:u=Value.ref a:=rx
  obtain ⟨c,f,fd,hm,hb,F⟩:=V.ex i
  refine getmeth_ok I1 ea c hm l ?_
  refine PySem.W.callWith_K (first:=[.ref a]) (h₀:=X.base) I.ok.mod.kin hm.kp (thn (ha pos pins s1 σ H1 _ I1 q) fun us s2 ⟨vs,H2,I2,r,q2⟩=>⟨I2.kIn,?_⟩) hst hpl
  exact run_fn (us:=.ref a :: us) (vs:=.ref a :: vs) (dvs:=[]) F hr hb .nil hx I2 (.cons rfl r) (by rw [List.append_nil]; exact q2)
theorem pe_methV0 {pl:Sem Bool} (he:PE X o ta) (V:Mth X.prog X.w X.K X.mg X.base k cl m ps spi) (hr:Room k X.A) (hx:Passes (CXE X.prog X.w) X E)
    (ht:eval (.Call (.Attribute o m apos) [] [] pos) X.env=(do
      let ov ← eval o X.env
      standAt apos.atName
      let (f,first) ← holding [ov] (getMethod ov m pl)
      callWith pos f first (backTo pos (starEach [] X.env)) (backToKw pos (keywordEach [] X.env))):=by rfl) :
    PE X (.Call (.Attribute o m apos) [] [] pos) (tMethV cl m spi E ta tNil):=by
  intro pins s σ H Q I h
  refine PySem.W.methodCall_KW (pl:=pl) (thn (he pins s σ H _ I h) fun u s1 ⟨x,H1,I1,rx,i,a,dx,fs,ex,ea,l,q⟩=>?_) ht
  subst ex
  obtain rfl:u=Value.ref a:=rx
  obtain ⟨c,f,fd,hm,hb,F⟩:=V.ex i
  refine getmeth_ok I1 ea c hm l ?_
  exact PySem.W.callWith_K0 (first:=[.ref a]) I1.kIn hm.kp (run_fn (us:=[.ref a]) (vs:=[.ref a]) (dvs:=[]) F hr hb .nil hx I1 (.cons rfl .nil) q)
def tMakeD (C:Addr) (sp:Sp) (E:XK) (t:TA):TE:=fun σ H Q=>t σ H fun vs H1=>∀ x dx,H1 x=none→H1 dx=none→dx≠x →
  sp (.ref x :: vs) (upd (upd H1 dx (.own x)) x (.ins C dx [])) (fun v H2=>v=.non∧Q (.ref x) H2) E
theorem pe_makeD (M:Mkr X.prog X.w X.K X.mg X.base k x C ps sp) (hr:Room (k + 1) X.A) (hg:Gl X x) (hx:Passes (CXE X.prog X.w) X E) (ha:PA X (e :: es) t) (hdb:(x == ("__debug__":Str))=false:=by decide)
    (he:starEach (e :: es) X.env=(false,eval e X.env) :: starEach es X.env:=by rfl) (hpl:(backTo pos (starEach es X.env)).any (·.1)=false:=by rfl):PE X (.Call (.Name x p) (e :: es) [] pos) (tMakeD C sp E t):=by
  obtain ⟨f,fd,mk,hb,F⟩:=M.ex
  have z:=pe_make (p:=p) (pos:=pos) mk F hr hg M.mgx hb .nil hx ha hdb he hpl
  unfold tMake at z
  simp only [List.append_nil] at z
  exact z
def tMakeN (C:Addr):TE:=fun _ H Q=>∀ x dx,H x=none→H dx=none→dx≠x→Q (.ref x) (upd (upd H dx (.own x)) x (.ins C dx []))
theorem pe_makeN (M:Mk0 X.K X.mg x C) (hg:Gl X x) (hdb:(x == ("__debug__":Str))=false:=by decide):PE X (.Call (.Name x p) [] [] pos) (tMakeN C):=by
  intro pins s σ H Q I h
  refine wpAny_Call_Name_kw (ld_glob I hg M.mgx ?_ hdb)
  refine PySem.W.callWith_K0 I.kIn M.kp ?_
  have hq:=h (s.heap.objs.size + 1) s.heap.objs.size (I.hok.fresh (Nat.le_succ _)) (I.hok.fresh (Nat.le_refl _)) (Nat.ne_of_lt (Nat.lt_succ_self _))
  have I2:=Inv.made (C:=C) I
  have Y:=PySem.W.makes_of (M:=model X.prog X.w) I.kIn M.makes
  have e2:((s.heap.push PySem.W.emptyDict).push (PySem.W.instObj C s.heap.objs.size)).get? (s.heap.objs.size + 1)=some (PySem.W.instObj C s.heap.objs.size):=by
    have:=Heap.get?_push_size (s.heap.push PySem.W.emptyDict) (o:=PySem.W.instObj C s.heap.objs.size) rfl
    rwa [Heap.size_push] at this
  have t1:PySem.W.Looks (model X.prog X.w) ((s.heap.push PySem.W.emptyDict).push (PySem.W.instObj C s.heap.objs.size)) (typeOf (.ref (s.heap.objs.size + 1))) (.ref C):=(PySem.W.Looks.ld e2).andThen .now
  have t2:PySem.W.Looks (model X.prog X.w) ((s.heap.push PySem.W.emptyDict).push (PySem.W.instObj C s.heap.objs.size)) (isInstance (.ref (s.heap.objs.size + 1)) (.type "object")) true:=t1.andThen (Y.top.keeps fun b o e=>Heap.get?_push_of_some _ (Heap.get?_push_of_some _ e))
  refine wpAny_call (make_map0 I.kIn M.makes M.init (fun self=>PySem.W.Looks.of_pure (PySem.W.oi_bind self)) ?_)
  refine codeAny_call_builtin PySem.W.oi_plain PySem.W.entry_oi (@PySem.W.check_slot (model X.prog X.w) _ _ _ "object.__init__" "object" "__init__" (.ref (s.heap.objs.size + 1)) [] [] _ PySem.W.oi_kind PySem.W.oi_split t2 (PySem.W.oi_args (.ref (s.heap.objs.size + 1))) ?_)
  rw [PySem.W.oi_run]
  exact wpAny_pure (And.intro rfl ⟨.ref (s.heap.objs.size + 1),_,I2,rfl,hq⟩)
end
section
variable {P : Program} {w : World} {K : PySem.W.Frag} {mg : Str → Option Value} {base : Heap}
theorem Fun.okX {x qual:Str} {st:Stmt} {f:Addr} {fd:FuncData} {N ps:List Str} {k:Nat} {sp:Sp} (F:Fun K x qual st f fd) (S:FnScope N ps (defScope st)) (len:∀ vs H Q E,sp vs H Q E→vs.length=ps.length)
    (hbody:∀ (cdv:Value) (A:Around) (outer:List Env) (s:Shared) (H:Hp) (vs:List V) (Q:VK) (E:XK),Room k (A.deeper (envOfC qual (defScope st) s.heap.objs.size f cdv))→sp vs H Q E →
      ∃ t,PSs (cxOf (CXE P w) P w K mg base N qual (defScope st) f cdv A outer s H E) (defBody st) t∧t { nx:=fun _ H'=>Q .non H',rt:=Q } (start N vs) H):FnOk P w K mg base (CXE P w) (k + 1) f fd ps sp:=by
  obtain ⟨oc,od,kV,doc,pm,an,cdv,ct,osl,rfl,lk,hcd⟩:=F.ex
  exact fn_of lk hcd S len fun A outer s H vs Q E hr hsp=>hbody cdv A outer s H vs Q E hr hsp
theorem Fun.okN {x qual:Str} {st:Stmt} {f:Addr} {fd:FuncData} {N ps:List Str} {k:Nat} {sp:Sp} (F:Fun K x qual st f fd) (S:FnScope N ps (defScope st)) (len:∀ vs H Q E,sp vs H Q E→vs.length=ps.length)
    (hbody:∀ (cdv:Value) (A:Around) (outer:List Env) (s:Shared) (H:Hp) (vs:List V) (Q:VK) (E:XK),Room k (A.deeper (envOfC qual (defScope st) s.heap.objs.size f cdv))→sp vs H Q E →
      ∃ t,PSs (cxOf (CXE P w) P w K mg base N qual (defScope st) f cdv A outer s H E).nox (defBody st) t∧t { nx:=fun _ H'=>Q .non H',rt:=Q } (start N vs) H):FnOk P w K mg base (CXE P w) (k + 1) f fd ps sp :=
  F.okX S len fun cdv A outer s H vs Q E hr hsp=>let ⟨t,h,q⟩:=hbody cdv A outer s H vs Q E hr hsp; ⟨t,h.nox,q⟩
structure DefAt (K:PySem.W.Frag) (mg:Str→Option Value) (x:Str) (st:Stmt):Prop where
  ex:∃ f fd,mg x=some (.ref f)∧Fun K x x st f fd
structure MthAt (K:PySem.W.Frag) (C:Addr) (m qual:Str) (st:Stmt):Prop where
  ex:∃ f fd,PySem.W.findIn K (.ref C) m=some (some (.ref f))∧PySem.W.isFn K (.ref f)=true∧Fun K m qual st f fd
theorem defAt_mk {x:Str} {st:Stmt} {f:Addr} {h:Heap} {oc:Value} {od an:Option Addr} {osl:Array (Option Value)} {kV doc pm cdv ct:Value} (X:K.In h) (G:h.Ns mainGlobals mg) (a:PySem.W.nsIn K mainGlobals x=some (some (.ref f)))
    (l:K.lookup f=some ⟨oc,od,.func (PySem.W.fnOf x x (defArgs st) (defBody st) (defScope st) .none kV doc pm an cdv ct),osl⟩)
    (c:PySem.W.codeIn K cdv x=true) (k:PySem.W.keepIn K (.ref f)=true):DefAt K mg x st:=⟨f,_,PySem.W.mg_of X G a,fun_mk l c k⟩
theorem mthAt_mk {C:Addr} {m qual:Str} {st:Stmt} {f:Addr} {oc:Value} {od an:Option Addr} {osl:Array (Option Value)} {kV doc pm cdv ct:Value} (a:PySem.W.findIn K (.ref C) m=some (some (.ref f))) (i:PySem.W.isFn K (.ref f)=true)
    (l:K.lookup f=some ⟨oc,od,.func (PySem.W.fnOf m qual (defArgs st) (defBody st) (defScope st) .none kV doc pm an cdv ct),osl⟩)
    (c:PySem.W.codeIn K cdv qual=true) (k:PySem.W.keepIn K (.ref f)=true):MthAt K C m qual st:=⟨f,_,a,i,fun_mk l c k⟩
end
end L2
namespace L2
open PySem
theorem bt_len:bootBuiltins "len"=some (.builtin "len"):=by decide +kernel
theorem bt_min:bootBuiltins "min"=some (.builtin "min"):=by decide +kernel
theorem bt_max:bootBuiltins "max"=some (.builtin "max"):=by decide +kernel
theorem bt_isinstance:bootBuiltins "isinstance"=some (.builtin "isinstance"):=by decide +kernel
theorem bt_int:bootBuiltins "int"=some (.type "int"):=by decide +kernel
theorem bt_bool:bootBuiltins "bool"=some (.type "bool"):=by decide +kernel
theorem bt_tuple:bootBuiltins "tuple"=some (.type "tuple"):=by decide +kernel
theorem bt_list:bootBuiltins "list"=some (.type "list"):=by decide +kernel
end L2
namespace L2
theorem iteEqI {i j:Int} {A B:Prop} (h1:i=j→A) (h2:i≠j→B):if decide (V.int i=V.int j)=true then A else B :=
  ite2 (fun c=>h1 (V.int.inj (of_decide_eq_true c))) (fun c=>h2 fun z=>c (decide_eq_true (congrArg V.int z)))
theorem iteNeI {i j:Int} {A B:Prop} (h1:i≠j→A) (h2:i=j→B):if (!decide (V.int i=V.int j))=true then A else B:=by
  by_cases h:i=j
  · rw [decide_eq_true (congrArg V.int h)]; exact iteF (h2 h)
  · rw [decide_eq_false (fun z=>h (V.int.inj z))]; exact iteT (h1 h)
theorem iteD {c A B:Prop} [Decidable c] (h1:c→A) (h2:¬ c→B):if decide c=true then A else B :=
  ite2 (fun z=>h1 (of_decide_eq_true z)) (fun z=>h2 fun y=>z (decide_eq_true y))
theorem iteB {b:Bool} {A B:Prop} (h1:b=true→A) (h2:b=false→B):if b=true then A else B:=by
  cases b with
  | true=>exact iteT (h1 rfl)
  | false=>exact iteF (h2 rfl)
theorem same_one {H:Hp} {x:PySem.Addr} {o:HO} (h:H x=Option.none):Same H (upd H x o):=fun b u e=>by rw [upd_ne (ne_of_none e h)]; exact e
theorem same_two {H:Hp} {x dx:PySem.Addr} {o u:HO} (h:H x=Option.none) (h2:H dx=Option.none):Same H (upd (upd H dx u) x o):=fun b v e=>by rw [upd_ne (ne_of_none e h),upd_ne (ne_of_none e h2)]; exact e
theorem Same.tup {K:PySem.W.Frag} {H H':Hp} {a:PySem.Addr} {xs:List V} (e:Same H H') (h:SqT K H a xs):SqT K H' a xs:=by
  rcases h with (h | ⟨o,h⟩) | h
  · exact .inl (.inl (e _ _ h))
  · exact .inl (.inr ⟨o,e _ _ h⟩)
  · exact .inr h
end L2
namespace L2
end L2
namespace L2
open PySem
section
variable {X : Cx} {es : List Expr} {env : Env}
theorem st_Constant {c j p}:starEach (.Constant c j p :: es) env=(false,eval (.Constant c j p) env) :: starEach es env:=by rfl
theorem st_Name {c p}:starEach (.Name c p :: es) env=(false,eval (.Name c p) env) :: starEach es env:=by rfl
theorem st_BinOp {a o b p}:starEach (.BinOp a o b p :: es) env=(false,eval (.BinOp a o b p) env) :: starEach es env:=by rfl
theorem st_UnaryOp {o b p}:starEach (.UnaryOp o b p :: es) env=(false,eval (.UnaryOp o b p) env) :: starEach es env:=by rfl
theorem st_Call {a o b p}:starEach (.Call a o b p :: es) env=(false,eval (.Call a o b p) env) :: starEach es env:=by rfl
theorem st_Tuple {a o p}:starEach (.Tuple a o p :: es) env=(false,eval (.Tuple a o p) env) :: starEach es env:=by rfl
theorem st_Subscript {a b p}:starEach (.Subscript a b p :: es) env=(false,eval (.Subscript a b p) env) :: starEach es env:=by rfl
theorem st_Attribute {a b p}:starEach (.Attribute a b p :: es) env=(false,eval (.Attribute a b p) env) :: starEach es env:=by rfl
theorem st_JoinedStr {a p}:starEach (.JoinedStr a p :: es) env=(false,eval (.JoinedStr a p) env) :: starEach es env:=by rfl
end
end L2
namespace L2
theorem t_or_eq {σ:St} {H:Hp} {i:Nat} {x j k:Int} {A B:Hp→Prop} (e:σ[i]?=some (some (.int x))) (h1:x=j∨x=k→A H) (h2:¬ (x=j∨x=k)→B H) :
    tOr (tTest (tOp rEq (tVar i) (tC (.int j)))) (tTest (tOp rEq (tVar i) (tC (.int k)))) σ H (fun c H1=>if c=true then A H1 else B H1) :=
  ⟨_,e,rfl,_,rfl,iteEqI (fun z=>iteT (h1 (.inl z))) (fun z=>⟨_,e,rfl,_,rfl,iteEqI (fun y=>h1 (.inr y)) (fun y=>h2 fun u=>u.elim z y)⟩)⟩
end L2
namespace L2
open PySem PySem.Spec PyProof.Rows
section
variable {X : Cx} {e : Expr} {te : TE} {pos p3 p4 : Pos} {c : Str} {k : Nat}
theorem op_fdivA (ht:X.prog.given.tree=none) (hd:X.A.depth + 100 < recursionLimit) (hst:X.stack=X.env :: X.outer) (hgen:X.env.scope.isGenerator=false) (hco:X.env.scope.isCoroutine=false) :
    OpR X (binaryOp .FloorDiv) (rI (fun _ j=>0 < j) fun i j=>.int (i / j)):=by
  intro pins s σ H x y v u Q I rx ry h
  obtain ⟨i,j,rfl,rfl,hc,q⟩:=h
  obtain ⟨t,rfl⟩:=rx
  obtain ⟨t',rfl⟩:=ry
  have seer:s.heap.NoSeer:=I.ok.mod.seer.keeps I.bk
  refine floordiv_int (by omega) ?_ (.inr (PylongRoom.of I.nolimit hd (SeerAt.of seer ht (by rw [I.ok.frames,hst]) hgen hco I.ok.blt I.ok.glob)))
  rw [Int.fdiv_eq_ediv_of_nonneg _ (by omega)]
  exact ⟨.int (i / j),H,I.tok _,⟨_,rfl⟩,q⟩
end
structure InsK (K:PySem.W.Frag) (C:Addr):Prop where
  ha:PySem.W.findIn K (.ref C) "__class__"=some (some (.builtin "object.__class__"))
  hn:PySem.W.specialIn K (.builtin "object.__class__") "__get__"=some (some (.builtin "getset_descriptor.__get__"))
  htk:PySem.W.takesIn K (.builtin "object.__class__")=some true
  hm:PySem.W.mroIn K C (.type "object")=some true
theorem TyX.ins {K:PySem.W.Frag} {H:Hp} {a C dx:Addr} {fs:List (Str × V)} (e:H a=some (.ins C dx fs)) (cl:Cls K C) (i:InsK K C):TyX K H (.ref a) (.ref C):=.of (.ins e cl i.ha i.hn i.htk i.hm)
end L2
namespace L2
open PySem PySem.Spec PyProof.Rows
section
variable {P : Program} {w : World} {H : Hp} {h h' : Heap} {a : Addr} {o : HO}
theorem HOk.track (x:HOk P w H h) {ch:List Addr} (k:∀ b u,b ∉ ch→h.get? b=some u→h'.get? b=some u) (hch:∀ b∈ch,H b=none) (hn:H a=none) (new:ObjOk P w (upd H a o) h' a o):HOk P w (upd H a o) h':=fun b u e=>by
  by_cases hb:b=a
  · subst hb; rw [upd_same] at e; cases e; exact new
  · rw [upd_ne hb] at e
    refine (x b u e).stay (fun c v hc q=>k c v (fun z=>?_) q) (fun c q=>by rw [upd_ne (ne_of_none q hn)]; exact q) fun c xs q=>by rw [upd_ne (ne_of_none q hn)]; exact q
    have z:=hch c z
    rcases hc with rfl | hc
    · rw [e] at z; cases z
    · rw [hc] at z; cases z
end
def Ite (K:PySem.W.Frag) (a:Addr):It :=
  ⟨fun i H=>∃ xs x,SqL K H a xs∧xs[i]?=some x,fun i H v H'=>∃ p x,v=.ref p∧H p=none∧H'=upd H p (.tup [.int (i:Nat),x])∧∀ xs,SqL K H a xs→xs[i]?=some x,fun i H=>∃ xs,SqL K H a xs∧xs.length≤i⟩
theorem turn_enum {P:Program} {w:World} {K:PySem.W.Frag} {elts:List Expr} {kt:Nat} {pt:Pos} (a e it:Addr) (hne:e≠it):Turn P w K (.Tuple elts kt pt) (Ite K a) [e,it] e (fun i h=>(∃ old,IsEnum h e it (i:Nat) old)∧h.IsListIter it a i) where
  mem:=by simp
  obj:=fun i h st b hb=>by
    obtain ⟨⟨old,st⟩,o,e1,c,d⟩:=st
    rcases List.mem_cons.mp hb with rfl | hb
    · exact ⟨_,st,fun v z=>by
        have z':Data.fields _=Data.cell v:=z
        cases z'⟩
    · have e2:b=it:=by simpa using hb
      subst e2
      exact ⟨o,e1,fun v z=>by rw [d] at z; cases z⟩
  keep:=fun i h h' st k=>⟨let ⟨old,st⟩:=st.1; ⟨old,k e (by simp) _ st⟩,st.2.at fun o q=>k it (by simp) o q⟩
  item:=by
    intro X hP hw hK hc i pins s σ H E I hf st hg
    subst hP hw hK
    obtain ⟨xs,x,hq,hx⟩:=hg
    obtain ⟨its,rv,p,hz⟩:=I.list hq
    obtain ⟨u,hu,ru⟩:=rv.get hx
    obtain ⟨⟨old,st1⟩,st2⟩:=st
    refine wpAny_pyNext_enum_item st1 st2 p.isList (x:=u) (by simpa using hu) hne fun h1 heo hit1 ht1 hz1 hk1=>?_
    refine ⟨_,rfl,wpAny_letOwnedTupleGo_enum heo fun h2 he2 hs2=>?_⟩
    replace hs2:Heap.SameBut e h1 h2:=hs2
    have hp:H s.heap.objs.size=none:=I.hok.fresh (Nat.le_refl _)
    have le:e < s.heap.objs.size:=Heap.lt_size st1
    have ht2:h2.get? s.heap.objs.size=some { cls:=.type "tuple",data:=.seq #[.int i s.toks,u] }:=(hs2.2 _ (Nat.ne_of_gt le)).trans ht1
    have kk:∀ b o,b ∉ [e,it]→s.heap.get? b=some o→h2.get? b=some o:=fun b o hb q=>by
      simp only [List.mem_cons,List.not_mem_nil,or_false,not_or] at hb
      exact hs2.extBut b o hb.1 (hk1 b o hb.1 hb.2 q)
    have nn:∀ b∈[e,it],H b=none:=fun b hb=>(hf b hb).1
    have ok2:HOk X.prog X.w (upd H s.heap.objs.size (.tup [.int (i:Nat),x])) h2:=I.hok.track (ch:=[e,it]) kk nn hp ⟨by show 2≤sizeLine; decide,[.int i s.toks,u],.cons ⟨_,rfl⟩ (.cons ru .nil),_,ht2,rfl,_,rfl⟩
    have there2:∀ b o,s.heap.get? b=some o→∃ o',h2.get? b=some o':=fun b o q=>by
      by_cases hb:b∈[e,it]
      · rcases List.mem_cons.mp hb with rfl | hb
        · exact ⟨_,he2⟩
        · have e2:b=it:=by simpa using hb
          subst e2
          obtain ⟨o1,q1,_⟩:=hit1
          exact ⟨o1,hs2.extBut _ _ (Ne.symm hne) q1⟩
      · exact ⟨o,kk b o hb q⟩
    have I1:Inv X pins σ (upd H s.heap.objs.size (.tup [.int (i:Nat),x])) { s with heap:=h2,toks:=s.toks + 1 }:=by
      refine I.step (g':=s.gens) (d':=s.drawn) (ch:=[e,it]) (fun b hb=>let ⟨_,f1,_,f3,f4,f5⟩:=hf b hb; ⟨f3,f1,f4,f5⟩) (fun b o _ _ hc q _=>kk b o hc q) (fun b o _ _ hc q _=>⟨o.slots,kk b o hc q⟩)
        (fun b o hc q n=>by rw [upd_ne (Nat.ne_of_lt (Heap.lt_size q))]; exact n) (fun b o hc q=>there2 b o q) (fun b xs q=>by rw [upd_ne (ne_of_none q hp)]; exact q) (fun b o u q=>by rw [upd_ne (ne_of_none q hp)]; exact q) (fun b ps q=>⟨#[],by rw [upd_ne (ne_of_none q hp),q]; simp⟩) (fun m hm=>?_) ok2 I.bare
      obtain ⟨o,es,ep,ho,r⟩:=hm
      refine ⟨o,es,ep,kk _ o (fun z=>?_) ho,r⟩
      exact (hf _ z).2.1 rfl
    refine ⟨.ref s.heap.objs.size,_,I1,rfl,⟨_,x,rfl,hp,rfl,fun ys hy=>by rw [I.list_inj hy hq]; exact hx⟩,⟨⟨_,he2⟩,?_⟩,fun b hb=>?_⟩
    · exact hit1.extBut hs2.extBut (Ne.symm hne)
    · rw [upd_ne (fun z=>?_)]
      · exact nn b hb
      · obtain ⟨o1,q1,_⟩:=st2
        have:=Heap.lt_size q1
        rcases List.mem_cons.mp hb with z2 | hb
        · rw [z2] at z; exact Nat.ne_of_lt le z
        · have e2:b=it:=by simpa using hb
          rw [e2] at z; exact Nat.ne_of_lt this z
  done:=by
    intro X hP hw hK hc i pins s σ H E I hf st hg
    subst hP hw hK
    obtain ⟨xs,hq,hx⟩:=hg
    obtain ⟨its,rv,p,hz⟩:=I.list hq
    obtain ⟨f0,f1,f2,f3,f4,f5⟩:=hf it (by simp)
    obtain ⟨⟨old,st1⟩,st2⟩:=st
    have hl:=rv.length
    exact wpAny_pyNext_enum_end (I.ok.hd hc) st1 st2 p.isList (by simp; omega) fun h' eb=>⟨rfl,I.turned (t':=s.toks) (fun b o hb e=>eb b o hb e) f0 f1 f3 f4 f5⟩
  self:=fun _ _ _ _ _ st h=>let ⟨⟨_,st⟩,_⟩:=st; wpAny_pyIter_enum st h
def iEnum (K:PySem.W.Frag) (ta:TA):TI:=fun σ H R=>ta σ H fun vs H1=>∃ a,vs=[.ref a]∧(∃ xs,SqL K H1 a xs)∧R (Ite K a) H1
theorem pi_enum {X:Cx} {elts:List Expr} {kt:Nat} {pt:Pos} {l:Expr} {ta:TA} {p pos:Pos} (hg:Gl X "enumerate") (hm:X.mg "enumerate"=none) (ha:PA X [l] ta) (hs:starEach [l] X.env=[(false,eval l X.env)]:=by rfl) :
    PI X (.Tuple elts kt pt) (.Call (.Name "enumerate" p) [l] [] pos) (iEnum X.K ta):=by
  intro pins s σ H R I h
  refine Call_ (ld_blt I hg hm boot_enumerate (PyProof.Rows.callWith_type1 (thn (ha pos pins s σ H _ I h) fun us s1 ⟨vs,H1,I1,r1,q1⟩=>?_) hs rfl))
  obtain ⟨a,e,⟨xs,hq⟩,q⟩:=q1
  subst e
  cases r1 with
  | cons r rr =>
    cases rr
    cases r
    obtain ⟨its,rv,p,hz⟩:=I1.list hq
    refine call_enumerate_list p.isList fun h' he hit hsz hk=>?_
    refine wpAny_pyIter_enum (s:={ s1 with heap:=h' }) he ?_
    refine ⟨s1.heap.objs.size + 1,[s1.heap.objs.size + 1,s1.heap.objs.size],_,_,H1,rfl,I1.kept (t':=s1.toks) hk,turn_enum a _ _ (Nat.succ_ne_self _),⟨⟨_,he⟩,hit⟩,fun b hb=>?_,q⟩
    have hb:s1.heap.objs.size≤b:=by
      rcases List.mem_cons.mp hb with rfl | hb
      · exact Nat.le_succ _
      · rw [List.mem_singleton.mp hb]; exact Nat.le_refl _
    exact I1.fpOk hb (I1.hok.fresh hb)
theorem for_enum {K:PySem.W.Frag} {a:Addr} {xs:List V} {g:TG} {tb:TS} {D:Ends} {σ:St} {H:Hp} (Pv:Nat→St→Hp→Prop) (h0:Pv 0 σ H) (hl:∀ i σ H,i≤xs.length→Pv i σ H→SqL K H a xs)
    (hs:∀ i x σ H p,xs[i]?=some x→Pv i σ H→H p=none→g (.ref p) σ (upd H p (.tup [.int (i:Nat),x])) fun σ2 H2=>tb { D with nx:=Pv (i + 1),ct:=Pv (i + 1),bk:=D.nx } σ2 H2) (hd:∀ σ H,Pv xs.length σ H→D.nx σ H) :
    ∃ W:Nat→Nat→St→Hp→Prop,(∃ m,W 0 m σ H)∧∀ i m σ H,W i m σ H →
      ((Ite K a).stop i H∧D.nx σ H)∨((Ite K a).go i H∧∃ N:St→Hp→Prop,(∀ σ' H',N σ' H'→∃ m',m' < m∧W (i + 1) m' σ' H')∧∀ x H',(Ite K a).yld i H x H'→g x σ H' fun σ2 H2=>tb { D with nx:=N,ct:=N,bk:=D.nx } σ2 H2):=by
  refine ⟨fun i m σ H=>m=xs.length - i∧i≤xs.length∧Pv i σ H,⟨xs.length,by simp,Nat.zero_le _,h0⟩,?_⟩
  rintro i m σ H ⟨rfl,hi,p⟩
  have q:=hl i σ H hi p
  by_cases hlt:i < xs.length
  · refine .inr ⟨⟨xs,xs[i],q,by simp [hlt]⟩,Pv (i + 1),fun σ' H' p'=>⟨xs.length - (i + 1),by omega,rfl,hlt,p'⟩,fun v H' y=>?_⟩
    obtain ⟨pt,x,rfl,hn,rfl,y⟩:=y
    exact hs i x σ H pt (y xs q) p hn
  · have e:i=xs.length:=by omega
    subst e
    exact .inl ⟨⟨xs,q,Nat.le_refl _⟩,hd σ H p⟩
end L2
namespace L2
open PySem PySem.Spec PyProof.Rows
structure CA where
  cl:List (Str × Addr)
  C:Addr
  s2:Shared
  H2:Hp
  fp:List Addr
  pn:List (Addr × Obj)
def compX (X:Cx) (N':List Str) (scope:Scope) (c:CA):Cx where
  prog:=X.prog
  w:=X.w
  K:=X.K
  mg:=X.mg
  base:=X.base
  A:=X.A
  N:=N'
  s₀:=c.s2
  H₀:=c.H2
  env:=compEnvC scope c.cl c.C X.env
  outer:=X.stack
  stack:=X.stack
  ex:=c.fp
  fn:=fun _=>false
  calm:=true
  pn:=c.pn
  kn:=fun _=>Option.none
  xe:=fun _ _=>False
structure CompScope (N:List Str) (osc:Scope) (k:Nat) (N':List Str) (fr:List Nat) (scope:Scope):Prop where
  kind:scope.kind=.function
  nocell:∀ y∈scope.names,y.2≠.cell
  names:∀ y∈scope.names,y.2=.local→scope.names.lookup y.1=some .local
  free:∀ y∈scope.names,y.2=.free→osc.names.lookup y.1=some .cell∨osc.names.lookup y.1=some .free
  len:N'.length=k + fr.length
  sl:fr.map (fun i=>N[i]?)=(N'.drop k).map some
  fre:∀ x∈N'.drop k,scope.names.lookup x=some .free
def clOf (names:List (Str × NameKind)) (cells:List (Str × Addr)):List (Str × Addr)→List (Str × Addr) :=
  fun acc=>names.foldl (fun acc y=>if y.2 == .free then (match cells.lookup y.1 with | some c=>(y.1,c) :: acc | none=>acc) else acc) acc
theorem closure_of {env:Env}:∀ (names:List (Str × NameKind)) (acc:List (Str × Addr)),(∀ y∈names,y.2=.free→∃ c,env.cells.lookup y.1=some c) →
    (forIn names acc fun x (r:List (Str × Addr))=>(if (x.2 == NameKind.free)=true then (do let a ← cellOf env x.1; pure (ForInStep.yield ((x.1,a) :: r))) else pure (ForInStep.yield r):Sem _))=pure (clOf names env.cells acc)
  | [],acc,_=>rfl
  | (n,k) :: r,acc,h=>by
    rw [List.forIn_cons]
    by_cases hk:k=.free
    · subst hk
      obtain ⟨c,hc⟩:=h (n,.free) List.mem_cons_self rfl
      have ih:=closure_of r ((n,c) :: acc) fun y hy=>h y (List.mem_cons_of_mem _ hy)
      have hco:cellOf env n=pure c:=by simp only [cellOf,hc]
      simp only [beq_self_eq_true,if_true,hco,pure_bind]
      rw [ih]
      simp only [clOf,List.foldl_cons,beq_self_eq_true,if_true,hc]
    · have hb:(k == NameKind.free)=false:=by simpa using hk
      have ih:=closure_of r acc fun y hy=>h y (List.mem_cons_of_mem _ hy)
      simp only [hb,Bool.false_eq_true,if_false,pure_bind]
      rw [ih]
      simp only [clOf,List.foldl_cons,hb,Bool.false_eq_true,if_false]
theorem closureFor_of {scope:Scope} {env:Env} (h:∀ y∈scope.names,y.2=.free→∃ c,env.cells.lookup y.1=some c):closureFor scope env=pure (clOf scope.names env.cells []):=by
  simp only [closureFor]
  have:=closure_of (env:=env) scope.names [] h
  first
  | (rw [this]; rfl)
  | (refine Eq.trans (congrArg (fun t=>t >>= _) this) ?_; rfl)
end L2
namespace L2
open PySem PySem.Spec PyProof.Rows
theorem clOf_lookup {cells:List (Str × Addr)} {x:Str}:∀ (names:List (Str × NameKind)) (acc:List (Str × Addr)),(∀ c,acc.lookup x=some c→cells.lookup x=some c)→∀ c,(clOf names cells acc).lookup x=some c→cells.lookup x=some c
  | [],_,h,c,e=>h c e
  | (n,k) :: r,acc,h,c,e=>by
    unfold clOf at e
    rw [List.foldl_cons] at e
    refine clOf_lookup r _ ?_ c e
    intro c' e'
    dsimp only at e'
    split at e'
    · split at e'
      · rename_i c2 hc2
        rw [List.lookup_cons] at e'
        split at e'
        · rename_i hx
          have:x=n:=by simpa using hx
          rw [this]; rw [← e']; exact hc2
        · exact h c' e'
      · exact h c' e'
    · exact h c' e'
theorem clOf_l0 {cells:List (Str × Addr)} {x:Str} {names:List (Str × NameKind)} {c:Addr} (h:(clOf names cells []).lookup x=some c):cells.lookup x=some c:=clOf_lookup names [] (fun _ z=>by simp at z) c h
theorem clOf_has {cells:List (Str × Addr)} {x:Str} {c:Addr} (hc:cells.lookup x=some c):∀ (names:List (Str × NameKind)) (acc:List (Str × Addr)),((x,NameKind.free)∈names∨(acc.lookup x).isSome=true)→((clOf names cells acc).lookup x).isSome=true
  | [],_,h=>h.elim (fun z=>nomatch z) id
  | (n,k) :: r,acc,h=>by
    unfold clOf
    rw [List.foldl_cons]
    refine clOf_has hc r _ ?_
    dsimp only
    rcases h with h | h
    · rcases List.mem_cons.mp h with e | h
      · cases e
        right
        rw [if_pos (by rfl),hc]
        simp [List.lookup_cons]
      · exact .inl h
    · right
      split
      · split
        · rw [List.lookup_cons]
          split
          · rfl
          · exact h
        · exact h
      · exact h
theorem relabel_free {env:Env}:∀ {names:List (Str × NameKind)} {x:Str},names.lookup x=some .free →
    (names.map fun (n,k)=>if (k == NameKind.free && env.scope.kind == .function && env.kindOf n == some .cell) then (n,NameKind.cell) else (n,k)).lookup x=some .cell ∨
    (names.map fun (n,k)=>if (k == NameKind.free && env.scope.kind == .function && env.kindOf n == some .cell) then (n,NameKind.cell) else (n,k)).lookup x=some .free
  | [],_,h=>by simp at h
  | (n,k) :: r,x,h=>by
    have ih:=@relabel_free env r x
    rw [List.map_cons]
    dsimp only
    cases hx:x == n with
    | true =>
      simp only [List.lookup_cons,hx] at h
      cases h
      split
      · left; simp only [List.lookup_cons,hx]
      · right; simp only [List.lookup_cons,hx]
    | false =>
      simp only [List.lookup_cons,hx] at h
      split
      · simp only [List.lookup_cons,hx]; exact ih h
      · simp only [List.lookup_cons,hx]; exact ih h
theorem relabel_back {env:Env}:∀ {names:List (Str × NameKind)} {x:Str},(∀ y∈names,y.2≠.cell) →
    ((names.map fun (n,k)=>if (k == NameKind.free && env.scope.kind == .function && env.kindOf n == some .cell) then (n,NameKind.cell) else (n,k)).lookup x=some .cell ∨
    (names.map fun (n,k)=>if (k == NameKind.free && env.scope.kind == .function && env.kindOf n == some .cell) then (n,NameKind.cell) else (n,k)).lookup x=some .free)→(x,NameKind.free)∈names
  | [],_,_,h=>by simp at h
  | (n,k) :: r,x,nc,h=>by
    have ih:=@relabel_back env r x fun y hy=>nc y (List.mem_cons_of_mem _ hy)
    rw [List.map_cons] at h
    dsimp only at h
    cases hx:x == n with
    | true =>
      have e:x=n:=by simpa using hx
      subst e
      by_cases hf:k=.free
      · subst hf; exact List.mem_cons_self
      · exfalso
        have hb:(k == NameKind.free)=false:=by simpa using hf
        rw [hb] at h
        simp only [Bool.false_and,Bool.false_eq_true,if_false,List.lookup_cons,beq_self_eq_true] at h
        rcases h with h | h
        · exact nc (x,k) List.mem_cons_self (Option.some.inj h)
        · exact hf (Option.some.inj h)
    | false =>
      refine List.mem_cons_of_mem _ (ih ?_)
      split at h <;> simpa only [List.lookup_cons,hx] using h
def slots (k:Nat) (fr:List Nat) (σ:St):St:=List.replicate k none ++ fr.map fun i=>(σ[i]?).join
section
variable {X : Cx} {N N' : List Str} {osc scope : Scope} {k : Nat} {fr : List Nat} {pins : List (Addr × Obj)} {σ : St} {H2 : Hp} {s2 : Shared} {fp : List Addr}
theorem comp_ok {C:Addr} {pn:List (Addr × Obj)} (S:CompScope N osc k N' fr scope) (hO:X.env.scope=osc) (hc:X.calm=true) (I:Inv X pins σ H2 s2) (hf:∀ b∈fp,FpOk X pins H2 b) (hlt:∀ b∈fp,b < s2.heap.objs.size) (hC:s2.heap.objs.size≤C) :
    (compX X N' scope ⟨clOf scope.names X.env.cells [],C,s2,H2,fp,pn⟩).Ok where
  mod:=I.ok.mod
  kind:=S.kind
  glob:=I.ok.glob
  blt:=I.ok.blt
  above:=hC
  inj:=fun x y c h1 h2=>I.ok.inj x y c (clOf_l0 h1) (clOf_l0 h2)
  has:=fun x hx=>by
    have hx:=relabel_back (env:=X.env) S.nocell hx
    have:=S.free (x,.free) hx rfl
    rw [← hO] at this
    obtain ⟨c,hc⟩:=I.ok.has x this
    exact Option.isSome_iff_exists.mp (clOf_has hc _ _ (.inl hx))
  cab:=fun x c h=>nomatch h
  hd:=fun _=>I.ok.hd hc
  frames:=I.ok.frames
  stk:=.inl rfl
  exf:=fun b hb=>⟨Nat.ne_of_lt (Nat.lt_of_lt_of_le (hlt b hb) hC),fun x c h=>(hf b hb).2.2.2.2.1 x c (clOf_l0 h)⟩
  bs:=fun b o e=>I.bs b o e
  bsz:=Nat.le_trans I.ok.bsz I.sz
  noex:=fun b o e hb=>by
    rcases (hf b hb).2.2.2.1 with z | z
    · exact I.ok.noex b o e z
    · exact absurd (Nat.lt_of_lt_of_le (Heap.lt_size e) (Nat.le_trans I.ok.bsz z)) (Nat.lt_irrefl _)
  exfs:=fun b hb hz=>by
    rcases List.mem_cons.mp (I.stkSub b hz) with z | z
    · exact (hf b hb).2.1 z
    · exact (hf b hb).2.2.1 z
  funs:=I.stack
  frf:=I.stkFree
theorem comp_inv {C:Addr} {h4:Heap} {tk:Nat} {m:Str→Option Value} {pl:List (Addr × Obj)} (S:CompScope N osc k N' fr scope) (hN:X.N=N) (hO:X.env.scope=osc) (hc:X.calm=true) (I:Inv X pins σ H2 s2) (hf:∀ b∈fp,FpOk X pins H2 b) (hlt:∀ b∈fp,b < s2.heap.objs.size) (hC:s2.heap.objs.size≤C)
    (kk:∀ b o,s2.heap.get? b=some o→h4.get? b=some o) (hn:h4.Ns C m)
    (hpl:∀ p∈pl,h4.get? p.1=some p.2∧s2.heap.objs.size≤p.1∧p.1≠C∧∀ v,p.2.data≠.cell v) :
    Inv (compX X N' scope ⟨clOf scope.names X.env.cells [],C,s2,H2,fp,X.pn ++ pins⟩) pl (slots k fr σ) H2 { s2 with heap:=h4,toks:=tk } where
  ok:=comp_ok S hO hc I hf hlt hC
  os:=rfl
  bare:=I.bare
  base:=Un.kept kk
  loc:=by
    refine ⟨m,hn,fun i x v h1 h2 _=>?_⟩
    have h1:N'[i]?=some x:=h1
    unfold slots at h2
    by_cases hi:i < k
    · rw [List.getElem?_append_left (by simpa using hi),List.getElem?_replicate,if_pos hi] at h2
      cases h2
    · rw [List.getElem?_append_right (by simpa using Nat.le_of_not_lt hi),List.length_replicate,List.getElem?_map] at h2
      cases hj:fr[i - k]? with
      | none=>rw [hj] at h2; cases h2
      | some j =>
        rw [hj] at h2
        have h2:(σ[j]?).join=some v:=Option.some.inj h2
        have h2:σ[j]?=some (some v):=by
          cases q:σ[j]? with
          | none=>rw [q] at h2; cases h2
          | some z=>rw [q] at h2; exact congrArg some h2
        have hd:(N'.drop k)[i - k]?=some x:=by
          rw [List.getElem?_drop]
          rw [show k + (i - k)=i by omega]
          exact h1
        have hx:N[j]?=some x:=by
          have:=congrArg (fun l=>l[i - k]?) S.sl
          simp only [List.getElem?_map,hj,hd,Option.map_some] at this
          exact Option.some.inj this
        have hfx:=S.fre x (List.mem_of_getElem? hd)
        have ho:=S.free (x,.free) (PySem.mem_of_lookup hfx) rfl
        rw [← hO] at ho
        obtain ⟨m0,hn0,hl0⟩:=I.loc
        obtain ⟨u,ru,lu⟩:=hl0 j x v (by rw [hN]; exact hx) h2 (.inr ho)
        refine ⟨u,ru,.inr ⟨relabel_free hfx,?_⟩⟩
        rcases lu with ⟨z,_⟩ | ⟨_,c,hcl,hcell⟩
        · exfalso
          have z:X.env.scope.names.lookup x=some .local:=z
          rcases ho with ho | ho <;> (rw [show X.env.scope.names.lookup x=_ from ho] at z; cases z)
        · obtain ⟨c',hc'⟩:=Option.isSome_iff_exists.mp (clOf_has hcl _ [] (.inl (PySem.mem_of_lookup hfx)))
          have:=clOf_l0 hc'
          rw [hcl] at this
          cases this
          obtain ⟨o,e,d⟩:=hcell
          exact ⟨_,hc',o,kk _ _ e,d⟩
  cell:=fun x c h=>by
    obtain ⟨v,o,e,d⟩:=I.cell x c (clOf_l0 h)
    exact ⟨v,o,kk _ _ e,d⟩
  free:=I.hok.fresh hC
  freeC:=fun x c h=>I.freeC x c (clOf_l0 h)
  pin:=fun p hp=>by
    rcases List.mem_append.mp hp with hp | hp
    · obtain ⟨e,n,ne,nf,d⟩:=I.pin p hp
      refine ⟨kk _ _ e,n,Nat.ne_of_lt (Nat.lt_of_lt_of_le (Heap.lt_size e) hC),fun z=>?_,d⟩
      rcases List.mem_cons.mp (I.stkSub p.1 z) with z | z
      · exact ne z
      · exact nf z
    · obtain ⟨e,a,ne,d⟩:=hpl p hp
      refine ⟨e,I.hok.fresh a,ne,fun z=>?_,d⟩
      rcases List.mem_cons.mp (I.stkSub p.1 z) with z | z
      · exact Nat.ne_of_gt (Nat.lt_of_lt_of_le I.lt a) z
      · exact I.nofs a z
  hok:=I.hok.kept kk
  len:=by
    unfold slots
    rw [List.length_append,List.length_replicate,List.length_map]
    exact S.len.symm
  kno:=fun _ _ z=>nomatch z
end
end L2
namespace L2
open PySem PySem.Spec PyProof.Rows
theorem compLoop_any {prog:Program} {w:World} {A:Around} {R:Result→Shared→Prop} {s:Shared} {elt target iter:Expr} {ifs:List Expr} {scope:Scope} {pos:Pos} {it acc:Value} {env:Env} (I:Nat→Shared→Prop)
    (turn:∀ n s,I n s→wpAny (model prog w) A (pyNext it) (fun r s₁=>match r with
      | none=>R (.ok .next) s₁
      | some v=>wpAny (model prog w) A (letOwnedTupleGo target it v) (fun _ s₁=>wpAny (model prog w) A (assign target env v) (fun _ s₂ =>
          wpAny (model prog w) A (forIn ifs true fun c r=>if r=true then do let ok ← isTrue c env (eval c env); pure (ForInStep.yield ok) else pure (ForInStep.yield r)) (fun ok s₃ =>
            if ok=true then wpAny (model prog w) A (eval elt env) (fun x s₄ =>
              wpAny (model prog w) A (call (.builtin "list.append") [acc,x]) (fun _ s₅=>∃ m,m < n∧I m s₅) (fun _ _=>False) s₄) (fun _ _=>False) s₃
            else ∃ m,m < n∧I m s₃) (fun _ _=>False) s₂) (fun _ _=>False) s₁) (fun _ _=>False) s₁) (fun _ _=>False) s)
    (n:Nat) (h:I n s) :
    codeAny (model prog w) A (.compLoop (.ListComp elt [⟨target,iter,ifs,0⟩] scope pos) 0 it acc env) R s:=by
  refine codeAny_loop rfl I (fun n s hI=>?_) n h
  show wpAny _ A ((compTurn (.ListComp elt [⟨target,iter,ifs,0⟩] scope pos) 0 it acc env).onRaise (fun x=>do noteFrame x env; theTreesLotGoes x)) _ _ s
  refine wpAny_noted ?_
  rw [compTurn_list]
  refine wpAny_bind (wpAny_standAt (wpAny_bind (wpAny_mono (turn n s hI) (fun r s₁ h₁=>?_) fun _ _ h'=>h'.elim)))
  cases r with
  | none=>exact wpAny_pure h₁
  | some v =>
    refine wpAny_bind (wpAny_mono h₁ (fun _ s₁ h₁=>?_) fun _ _ h'=>h'.elim)
    refine wpAny_bind (wpAny_mono h₁ (fun _ s₂ h₂=>wpAny_bind (wpAny_mono h₂ (fun ok s₃ h₃=>?_) fun _ _ h'=>h'.elim)) fun _ _ h'=>h'.elim)
    cases ok with
    | false=>exact wpAny_pure ⟨rfl,h₃⟩
    | true =>
      exact wpAny_bind (wpAny_bind (wpAny_mono h₃ (fun x s₄ h₄=>wpAny_bind (wpAny_mono h₄ (fun _ s₅ h₅=>wpAny_pure (wpAny_pure ⟨rfl,h₅⟩)) fun _ _ h'=>h'.elim)) fun _ _ h'=>h'.elim))
def PTs (X:Cx) (ifs:List Expr) (t:TT):Prop :=
  ∀ (pins:List (Addr × Obj)) (s:Shared) (σ:St) (H:Hp) (Q:Bool→Hp→Prop),Inv X pins σ H s→t σ H Q →
    wpAny (model X.prog X.w) X.A (forIn ifs true fun c r=>if r=true then do let ok ← isTrue c X.env (eval c X.env); pure (ForInStep.yield ok) else pure (ForInStep.yield r)) (TP X pins σ Q) X.xe s
def tTT:TT:=fun _ H Q=>Q true H
theorem pts_nil {X:Cx}:PTs X [] tTT:=fun _ _ _ _ _ I q=>wpAny_tests_nil ⟨_,I,q⟩
theorem pts_one {X:Cx} {c:Expr} {t:TT} (h:PT X c t):PTs X [c] t:=fun pins s σ H Q I q=>wpAny_tests_one (h pins s σ H Q I q)
section
variable {X : Cx} {N N' : List Str} {osc scope : Scope} {k : Nat} {fr : List Nat} {pins : List (Addr × Obj)} {σ : St} {H2 : Hp} {s2 : Shared} {fp : List Addr}
def lo (its:List Value) (n:Nat):Obj:={ cls:=.type "list",data:=.seq its.toArray n }
theorem comp_back {C D:Addr} {H':Hp} {s':Shared} {h'':Heap} {σ':St} {pl:List (Addr × Obj)} {ys:List V} {its:List Value} {n:Nat}
    (I:Inv X pins σ H2 s2) (hf:∀ b∈fp,FpOk X pins H2 b) (hC:s2.heap.objs.size≤C) (hD:s2.heap.objs.size≤D) (hCD:C≠D)
    (J:Inv (compX X N' scope ⟨clOf scope.names X.env.cells [],C,s2,H2,fp,X.pn ++ pins⟩) pl σ' H' s') (hp:(D,lo its n)∈pl) (r:Vals ys its) (hz:ys.length≤sizeLine) (hs:Heap.SameBut C s'.heap h'') :
    Inv X pins σ (upd H' D (.lst ys)) { s' with heap:=h'' }:=by
  have ltC:∀ b o,s2.heap.get? b=some o→b≠C:=fun b o e=>Nat.ne_of_lt (Nat.lt_of_lt_of_le (Heap.lt_size e) hC)
  have ltD:∀ b o,s2.heap.get? b=some o→b≠D:=fun b o e=>Nat.ne_of_lt (Nat.lt_of_lt_of_le (Heap.lt_size e) hD)
  obtain ⟨eD,nD,_,_,_⟩:=J.pin (D,lo its n) (List.mem_append_right _ hp)
  have u:Un (frs X.stack) fp H2 H' s2.heap s'.heap:=J.base
  have u2:Un (frs X.stack) fp H2 (upd H' D (.lst ys)) s2.heap h'':=⟨
    fun b o e n hb hx=>hs.extBut b o (ltC b o e) (u.keep b o e n hb hx),
    fun b o e n hb hx=>let ⟨sl,q⟩:=u.slot b o e n hb hx; ⟨sl,hs.extBut b _ (ltC b o e) q⟩,
    fun b o e n hx=>by rw [upd_ne (ltD b o e)]; exact u.free b o e n hx,
    fun b o e hx=>let ⟨o',q⟩:=u.there b o e hx; ⟨o',hs.extBut b _ (ltC b o e) q⟩,
    fun b xs e=>by rw [upd_ne (ne_of_none (u.tups b xs e) nD)]; exact u.tups b xs e,
    fun b o v e=>by rw [upd_ne (ne_of_none (u.frzs b o v e) nD)]; exact u.frzs b o v e,
    fun b ps e=>let ⟨m,q⟩:=u.tbls b ps e; ⟨m,by rw [upd_ne (ne_of_none q nD)]; exact q⟩⟩
  have ok2:HOk X.prog X.w (upd H' D (.lst ys)) h'':=by
    refine HOk.track (P:=X.prog) (w:=X.w) J.hok (ch:=[C]) (fun b o hb e=>hs.extBut b o (by simpa using hb) e) (fun b hb=>?_) nD ⟨hz,its,n,r,hs.extBut _ _ (Ne.symm hCD) eD⟩
    rw [List.mem_singleton.mp hb]; exact J.free
  exact I.call' (s':={ s' with heap:=h'' }) (ch:=fp) J.os u2 ok2 J.bare fun b hb=>let ⟨_,f1,_,f3,f4,f5⟩:=hf b hb; ⟨f3,f1,f4,f5⟩
end
end L2
namespace L2
open PySem PySem.Spec PyProof.Rows
def CTurn (J:It) (k:Nat) (fr:List Nat) (σ:St) (g:CA→TG) (tt:CA→TT) (te:CA→TE) (W:Nat→Nat→List V→Hp→Prop) (F:List V→Hp→Prop):Prop :=
  ∀ i m ys H,W i m ys H→ys.length≤sizeLine∧∀ ca,(J.stop i H∧F ys H)∨(J.go i H∧ys.length < sizeLine∧∃ Nx:List V→Hp→Prop,(∀ v H',Nx (ys ++ [v]) H'→∃ m',m' < m∧W (i + 1) m' (ys ++ [v]) H')∧(∀ H',Nx ys H'→∃ m',m' < m∧W (i + 1) m' ys H')∧∀ x H',J.yld i H x H'→g ca x (slots k fr σ) H' fun σ2 H2 =>
    (List.drop k σ2=fr.map (fun i=>(σ[i]?).join)∧σ2.length=k + fr.length)∧tt ca σ2 H2 fun b H3 =>
      if b=true then te ca σ2 H3 fun v H4=>Nx (ys ++ [v]) H4 else Nx ys H3)
section
variable {X : Cx} {N N' : List Str} {osc scope : Scope} {k : Nat} {fr : List Nat} {pins : List (Addr × Obj)} {σ : St} {H2 : Hp} {s2 : Shared} {fp : List Addr}
theorem slots_weak {σ2:St} (e1:List.drop k σ2=fr.map (fun i=>(σ[i]?).join)):∀ (i:Nat) v,(slots k fr σ)[i]?=some (some v)→σ2[i]?=some (some v):=fun i v h=>by
  unfold slots at h
  by_cases hi:i < k
  · rw [List.getElem?_append_left (by simpa using hi),List.getElem?_replicate,if_pos hi] at h
    cases h
  · rw [List.getElem?_append_right (by simpa using Nat.le_of_not_lt hi),List.length_replicate,← e1,List.getElem?_drop] at h
    rw [← h,show k + (i - k)=i by omega]
theorem comp_block {elt tg iter:Expr} {ifs:List Expr} {pos:Pos} {J:It} {it:Addr} {tn:Nat→Heap→Prop} {g:CA→TG} {tt:CA→TT} {te:CA→TE} {W:Nat→Nat→List V→Hp→Prop} {F:List V→Hp→Prop}
    {RR:Value→Addr→Result→Shared→Prop} {E:Value→Shared→Prop}
    (S:CompScope N osc k N' fr scope) (hN:X.N=N) (hO:X.env.scope=osc) (hc:X.calm=true) (I:Inv X pins σ H2 s2) (T:Turn X.prog X.w X.K tg J fp it tn) (st2:tn 0 s2.heap) (hf:∀ b∈fp,FpOk X pins H2 b)
    (hb:∀ ca,PG (compX X N' scope ca) tg (g ca)∧PTs (compX X N' scope ca) ifs (tt ca)∧PE (compX X N' scope ca) elt (te ca))
    (w0:∃ m,W 0 m [] H2) (turn:CTurn J k fr σ g tt te W F)
    (hRR:∀ D C h4 σ' H' s' pl ys its n m,s2.heap.objs.size≤C→s2.heap.objs.size≤D→C≠D→Inv (compX X N' scope ⟨clOf scope.names X.env.cells [],C,s2,H2,fp,X.pn ++ pins⟩) pl σ' H' s'→(D,lo its n)∈pl→Vals ys its→ys.length≤sizeLine →
      s'.heap.Ns C m→F ys H'→h4=s'.heap→RR (.ref D) C (.ok .next) s') :
    wpAny (model X.prog X.w) X.A (newList []) (fun acc s3=>wpAny (model X.prog X.w) X.A (newFunctionEnv scope X.env.globals (clOf scope.names X.env.cells []) [] X.env.qual none .none (some X.env)) (fun cenv s4 =>
      codeAny (model X.prog X.w) X.A (.compStart (.ListComp elt [⟨tg,iter,ifs,0⟩] scope pos) 0 (.ref it) acc { cenv with scope:=relabel scope X.env }) (RR acc cenv.locals) s4) E s3) E s2:=by
  refine wpAny_newObj_type (wpAny_newFunctionEnv S.nocell (by intro y hy; simp at hy) (fun h4 hn4 hsb4=>?_) S.kind)
  dsimp only at hn4 hsb4 ⊢
  generalize hH3:s2.heap.push { cls:=.type "list",dict:=none,data:=.seq ([]:List Value).toArray }=H3 at hn4 hsb4 ⊢
  have hCz:H3.objs.size=s2.heap.objs.size + 1:=by rw [← hH3,Heap.size_push]
  have hC:s2.heap.objs.size≤H3.objs.size:=by rw [hCz]; exact Nat.le_succ _
  have hCD:H3.objs.size≠s2.heap.objs.size:=by rw [hCz]; exact Nat.succ_ne_self _
  have hlt:∀ b∈fp,b < s2.heap.objs.size:=fun b hb=>let ⟨_,e,_⟩:=T.obj _ _ st2 b hb; Heap.lt_size e
  have kk:∀ b o,s2.heap.get? b=some o→h4.get? b=some o:=fun b o e=>hsb4.extBut b o (Nat.ne_of_lt (Nat.lt_of_lt_of_le (Heap.lt_size e) hC)) (Heap.get?_push_of_some _ (hH3 ▸ Heap.get?_push_of_some _ e))
  have hacc:h4.get? s2.heap.objs.size=some (lo [] 0):=hsb4.extBut _ _ (Ne.symm hCD) (Heap.get?_push_of_some _ (hH3 ▸ Heap.get?_push_size _ rfl))
  generalize hX':compX X N' scope ⟨clOf scope.names X.env.cells [],H3.objs.size,s2,H2,fp,X.pn ++ pins⟩=X' at hRR
  have eL:X'.env.locals=H3.objs.size:=by rw [← hX']; rfl
  have I4:∀ tk,Inv X' [(s2.heap.objs.size,lo [] 0)] (slots k fr σ) H2 { s2 with heap:=h4,toks:=tk }:=fun tk=>by
    rw [← hX']
    refine comp_inv S hN hO hc I hf hlt hC kk hn4 fun p hp=>?_
    rw [List.mem_singleton.mp hp]
    exact ⟨hacc,Nat.le_refl _,Ne.symm hCD,fun v z=>by
      have z':Data.seq _ _=Data.cell v:=z
      cases z'⟩
  have st4:tn 0 h4:=T.keep _ _ _ st2 fun b _ o e=>kk b o e
  have fpo:∀ {pl:List (Addr × Obj)} {H:Hp},(∀ b∈fp,H b=none)→(∀ p∈pl,p.1=s2.heap.objs.size)→∀ b∈fp,FpOk X' pl H b:=fun {pl H} hn hpl b hb=>by
    obtain ⟨_,f1,f2,f3,f4,f5⟩:=hf b hb
    rw [← hX']
    refine ⟨hn b hb,Nat.ne_of_lt (Nat.lt_of_lt_of_le (hlt b hb) hC),fun z=>?_,.inl hb,fun x c h=>f4 x c (clOf_l0 h),fun p hp z=>?_⟩
    · rcases List.mem_cons.mp (I.stkSub b z) with z | z
      · exact f1 z
      · exact f2 z
    · rcases List.mem_append.mp hp with hp | hp
      · exact f5 p hp z
      · have:=hpl p hp
        rw [z] at this
        exact Nat.ne_of_lt (hlt b hb) this
  have hcX:X'.calm=true:=by rw [← hX']; rfl
  have loop:∀ s3:Shared,(∃ tk,s3={ s2 with heap:=h4,toks:=tk }) →
      codeAny (model X.prog X.w) X.A (.compLoop (.ListComp elt [⟨tg,iter,ifs,0⟩] scope pos) 0 (.ref it) (.ref s2.heap.objs.size) (compEnvC scope (clOf scope.names X.env.cells []) H3.objs.size X.env))
        (RR (.ref s2.heap.objs.size) H3.objs.size) s3:=by
    rintro s3 ⟨tk,rfl⟩
    obtain ⟨m0,w0⟩:=w0
    refine compLoop_any (fun n s'=>∃ i ys its nn H',Inv X' [(s2.heap.objs.size,lo its nn)] (slots k fr σ) H' s'∧Vals ys its∧tn i s'.heap∧(∀ b∈fp,H' b=none)∧W i n ys H') ?_ m0
      ⟨0,[],[],0,H2,I4 tk,.nil,st4,fun b hb=>(hf b hb).1,w0⟩
    rintro n s5 ⟨i,ys,its,nn,H5,I5,r5,st5,fr5,w5⟩
    obtain ⟨hz,tca⟩:=turn i n ys H5 w5
    have e1:X'.prog=X.prog:=by rw [← hX']; rfl
    have e2:X'.w=X.w:=by rw [← hX']; rfl
    have e3:X'.K=X.K:=by rw [← hX']; rfl
    have e4:X'.A=X.A:=by rw [← hX']; rfl
    have e5:X'.xe=fun _ _=>False:=by rw [← hX']; rfl
    have e6:X'.env=compEnvC scope (clOf scope.names X.env.cells []) H3.objs.size X.env:=by rw [← hX']; rfl
    have one:∀ (its:List Value) (nn:Nat),∀ p∈[(s2.heap.objs.size,lo its nn)],p.1=s2.heap.objs.size:=fun its nn p hp=>by rw [List.mem_singleton.mp hp]
    rcases tca ⟨clOf scope.names X.env.cells [],H3.objs.size,s2,H2,fp,X.pn ++ pins⟩ with ⟨stop,fin⟩ | ⟨go,hzz,Nx,nx1,nx2,step⟩
    · have:=T.done X' e1 e2 e3 hcX i _ s5 _ H5 (fun _ _=>False) I5 (fpo fr5 (one its nn)) st5 stop
      rw [e4] at this
      refine thn this fun r s6 ⟨hr,I6⟩=>?_
      subst hr
      obtain ⟨m,hn,_⟩:=I6.loc
      rw [eL] at hn
      exact hRR _ _ s6.heap _ H5 s6 _ ys its nn m hC (Nat.le_refl _) hCD (hX' ▸ I6) List.mem_cons_self r5 hz hn fin rfl
    · have:=T.item X' e1 e2 e3 hcX i _ s5 _ H5 (fun _ _=>False) I5 (fpo fr5 (one its nn)) st5 go
      rw [e4] at this
      refine thn this fun r s6 ⟨u,hr,h6⟩=>?_
      subst hr
      refine thn h6 fun _ s7 ⟨x,H7,I7,r7,y7,st7,fr7⟩=>?_
      have I7':=I7.pinned (fpo fr7 (one its nn)) (T.obj _ _ st7)
      obtain ⟨bg,bt,be⟩:=hb ⟨clOf scope.names X.env.cells [],H3.objs.size,s2,H2,fp,X.pn ++ pins⟩
      rw [hX'] at bg bt be
      have:=bg _ s7 _ H7 x u _ I7' r7 (step x H7 y7)
      rw [e1,e2,e4,e5,e6] at this
      refine thn this fun _ s8 ⟨σ8,H8,I8,⟨d1,d2⟩,q8⟩=>?_
      have:=bt _ s8 σ8 H8 _ I8 q8
      rw [e1,e2,e4,e5,e6] at this
      refine thn this fun ok s9 ⟨H9,I9,q9⟩=>?_
      have wk:∀ {H:Hp} {s:Shared},Inv X' ([(s2.heap.objs.size,lo its nn)] ++ pinsAt fp s7.heap) σ8 H s→Inv X' ([(s2.heap.objs.size,lo its nn)] ++ pinsAt fp s7.heap) (slots k fr σ) H s:=fun J =>
        J.weak (by unfold slots; rw [List.length_append,List.length_replicate,List.length_map]; exact d2.symm) (slots_weak d1) fun _ _ z=>by rw [← hX'] at z; cases z
      have tnk:∀ {H:Hp} {s:Shared} {σ9:St},Inv X' ([(s2.heap.objs.size,lo its nn)] ++ pinsAt fp s7.heap) σ9 H s→tn (i + 1) s.heap∧∀ b∈fp,H b=none:=fun J=>⟨T.keep _ _ _ st7 fun b hb o e=>(J.pin (b,o) (List.mem_append_right _ (List.mem_append_right _ (mem_pinsAt hb e)))).1,fun b hb=>by
        obtain ⟨o,e,d⟩:=T.obj _ _ st7 b hb
        exact (J.pin (b,o) (List.mem_append_right _ (List.mem_append_right _ (mem_pinsAt hb e)))).2.1⟩
      cases ok with
      | false =>
        rw [if_neg Bool.false_ne_true]
        obtain ⟨m',hm,w9⟩:=nx2 _ q9
        exact ⟨m',hm,i + 1,ys,its,nn,H9,(wk I9).unpinned,r5,(tnk I9).1,(tnk I9).2,w9⟩
      | true =>
        rw [if_pos rfl]
        have:=be _ s9 σ8 H9 _ I9 q9
        rw [e1,e2,e4,e5,e6] at this
        refine thn this fun u10 s10 ⟨v,H10,I10,r10,q10⟩=>?_
        obtain ⟨m',hm,w10⟩:=nx1 _ _ q10
        have p10:=I10.pin (s2.heap.objs.size,lo its nn) (List.mem_append_right _ (List.mem_append_left _ List.mem_cons_self))
        have hl:its.length=ys.length:=r5.length.symm
        refine append_at (hsz:=by rw [List.size_toArray,hl]; exact Nat.le_of_lt hzz) p10.1 fun h11 hs11 hD11=>?_
        obtain ⟨t10,f10⟩:=tnk I10
        have J:Inv X' [] (slots k fr σ) H10 s10:=(wk I10).pins_of fun p hp=>nomatch hp
        have ck:∀ x c,X'.env.cells.lookup x=some c→c < s2.heap.objs.size:=fun x c h=>by
          rw [e6] at h
          obtain ⟨_,o,e,_⟩:=I.cell x c (clOf_l0 h)
          exact Heap.lt_size e
        have ns:X'.s₀=s2:=by rw [← hX']; rfl
        have J2:Inv X' [] (slots k fr σ) H10 { s10 with heap:=h11,toks:=s10.toks }:=J.turned (fun b o hb e=>(hs11.2 b hb).trans e) p10.2.1 (by rw [eL]; exact Ne.symm hCD) (.inr (by rw [ns]; exact Nat.le_refl _)) (fun x c h=>Nat.ne_of_lt (ck x c h)) fun p hp z=>by
          rcases List.mem_append.mp hp with hp | hp
          · rw [← hX'] at hp
            have hp:p∈X.pn ++ pins:=hp
            exact Nat.ne_of_lt (Heap.lt_size (I.pin p hp).1) z
          · cases hp
        refine ⟨m',hm,i + 1,ys ++ [v],its ++ [u10],nn + 1,H10,J2.pins_of fun p hp=>?_,r5.append (.cons r10 .nil),T.keep _ _ _ t10 fun b hb o e=>(hs11.2 b (Nat.ne_of_lt (hlt b hb))).trans e,f10,w10⟩
        rw [List.mem_singleton.mp hp]
        refine ⟨?_,p10.2.1,p10.2.2.1,p10.2.2.2.1,fun v z=>by
          have z':Data.seq _ _=Data.cell v:=z
          cases z'⟩
        show h11.get? s2.heap.objs.size=some (lo (its ++ [u10]) (nn + 1))
        rw [hD11]
        simp [lo]
  exact codeAny_compStart_list (loop _ ⟨_,rfl⟩) (T.self _ 0 _ _ _ st4 (loop _ ⟨_,rfl⟩))
end
end L2
namespace L2
open PySem PySem.Spec PyProof.Rows
def tComp (wi:TI) (k:Nat) (fr:List Nat) (g:CA→TG) (tt:CA→TT) (te:CA→TE):TE:=fun σ H Q=>wi σ H fun J H1=>∃ W:Nat→Nat→List V→Hp→Prop,(∃ m,W 0 m [] H1) ∧
  CTurn J k fr σ g tt te W (fun ys H=>∀ p,H p=none→Q (.ref p) (upd H p (.lst ys)))
section
variable {X : Cx} {N N' : List Str} {osc scope : Scope} {k : Nat} {fr : List Nat} {elt tg iter : Expr} {ifs : List Expr} {pos : Pos} {wi : TI} {g : CA → TG} {tt : CA → TT} {te : CA → TE}
theorem pe_comp (S:CompScope N osc k N' fr scope) (hN:X.N=N) (hO:X.env.scope=osc) (hc:X.calm=true) (hi:PI X tg iter wi)
    (hb:∀ ca,PG (compX X N' scope ca) tg (g ca)∧PTs (compX X N' scope ca) ifs (tt ca)∧PE (compX X N' scope ca) elt (te ca))
    (hs:∀ x,foldedSetIterable iter X.env x=pure x:=by intro _; rfl):PE X (.ListComp elt [⟨tg,iter,ifs,0⟩] scope pos) (tComp wi k fr g tt te):=by
  intro pins s σ H Q I h
  rw [eval_ListComp]
  have hcl:closureFor scope X.env=pure (clOf scope.names X.env.cells []):=closureFor_of fun y hy hf=>by
    have:=S.free y hy hf
    rw [← hO] at this
    exact I.ok.has y.1 this
  refine wpAny_comprehension_free (use:=none) rfl hs hcl S.kind S.names (thn (hi pins s σ H _ I h) fun v s1 h1=>thn h1 fun itv s2 h2=>?_)
  obtain ⟨it,fp,tn,J,H2,e,I2,T,st2,f2,W,w0,turn⟩:=h2
  subst e
  refine comp_block S hN hO hc I2 T st2 f2 hb w0 turn fun D C h4 σ' H' s' pl ys its n m hC hD hCD J hp r hz hn fin _=>?_
  refine ⟨m,hn,fun h'' hs''=>⟨.ref D,_,comp_back I2 f2 hC hD hCD J hp r hz hs'',rfl,fin D ?_⟩⟩
  exact (J.pin _ (List.mem_append_right _ hp)).2.1
theorem ps_setC {i:Nat} {x:Str} {pos' spos:Pos} (hNd:X.N.Nodup) (hix:X.N[i]?=some x) (hx:X.env.scope.names.lookup x=some .local) (S:CompScope N osc k N' fr scope) (hN:X.N=N) (hO:X.env.scope=osc) (hc:X.calm=true) (hi:PI X tg iter wi)
    (hb:∀ ca,PG (compX X N' scope ca) tg (g ca)∧PTs (compX X N' scope ca) ifs (tt ca)∧PE (compX X N' scope ca) elt (te ca))
    (hsw:swapsWith (.ListComp elt [⟨tg,iter,ifs,0⟩] scope pos) (some (.Name x pos')) spos.line X.env=pure true:=by rfl) (hkn:X.kn i=Option.none:=by rfl)
    (hs:∀ x,foldedSetIterable iter X.env x=pure x:=by intro _; rfl):PS X (.Assign [.Name x pos'] (.ListComp elt [⟨tg,iter,ifs,0⟩] scope pos) spos) (tAsg (tComp wi k fr g tt te) (gName i)):=by
  intro pins s σ H D0 I h
  have hcl:closureFor scope X.env=pure (clOf scope.names X.env.cells []):=closureFor_of fun y hy hf=>by
    have:=S.free y hy hf
    rw [← hO] at this
    exact I.ok.has y.1 this
  rw [exec_Assign_Name_used _ _ _ _ hsw]
  refine wpAny_bind (wpAny_standAt (wpAny_bind ?_))
  show wpAny _ X.A (do let _ ← comprehension (.ListComp elt [⟨tg,iter,ifs,0⟩] scope pos) scope X.env _ (newList []) false (eval iter X.env) (some (assign (.Name x pos') X.env))) _ _ s
  refine wpAny_bind (thn (wpAny_comprehension_free (use:=some (assign (.Name x pos') X.env)) (Q:=fun _ s'=>SP X pins D0 .next s') rfl hs hcl S.kind S.names (thn (hi pins s σ H _ I h) fun v s1 h1=>thn h1 fun itv s2 h2=>?_))
    fun _ s' hq=>wpAny_pure (wpAny_pure hq))
  obtain ⟨it,fp,tn,J,H2,e,I2,T,st2,f2,W,w0,turn⟩:=h2
  subst e
  refine comp_block S hN hO hc I2 T st2 f2 hb w0 turn fun D C h4 σ' H' s' pl ys its n m hC hD hCD J hp r hz hn fin _=>?_
  have nD:=(J.pin _ (List.mem_append_right _ hp)).2.1
  have B:Inv X pins σ (upd H' D (.lst ys)) s':=comp_back (h'':=s'.heap) I2 f2 hC hD hCD J hp r hz ⟨rfl,fun _ _=>rfl⟩
  obtain ⟨oC,es,ep,eC,dC,rC⟩:=hn
  have cL:C≠X.env.locals:=Nat.ne_of_gt (Nat.lt_of_lt_of_le I2.lt hC)
  have B2:Inv X (pins ++ [(C,oC)]) σ (upd H' D (.lst ys)) s':=B.pins_of fun p hp2=>by
    rcases List.mem_append.mp hp2 with hp2 | hp2
    · exact B.pin p (List.mem_append_right _ hp2)
    · rw [List.mem_singleton.mp hp2]
      exact ⟨eC,by rw [upd_ne hCD]; exact J.free,cL,I2.nofs hC,fun v z=>by rw [dC] at z; cases z⟩
  refine wpAny_assign_Name (store_ok B2 hNd hix (.inl hx) (v:=.ref D) (u:=.ref D) rfl (fun s5 I5=>?_) (.inr hx) hkn)
  have p5:=I5.pin (C,oC) (List.mem_append_right _ (List.mem_append_right _ List.mem_cons_self))
  refine ⟨m,⟨oC,es,ep,p5.1,dC,rC⟩,fun h'' hs''=>⟨_,_,(I5.unpinned).turned (t':=s5.toks) (it:=C) (fun b o hb e=>hs''.extBut b o hb e) p5.2.1 p5.2.2.1 (.inr ?_) (fun y c hy z=>?_) (fun p hp2 z=>?_),fin D nD⟩⟩
  · exact Nat.le_trans I2.sz hC
  · obtain ⟨_,o,e,_⟩:=I2.cell y c hy
    exact Nat.ne_of_lt (Nat.lt_of_lt_of_le (Heap.lt_size e) hC) z
  · exact Nat.ne_of_lt (Nat.lt_of_lt_of_le (Heap.lt_size (I2.pin p hp2).1) hC) z
end
section
variable {k : Nat} {fr : List Nat} {σ : St} {g : CA → TG} {tt : CA → TT} {te : CA → TE} {F : List V → Hp → Prop} {H : Hp}
def CStep (k:Nat) (fr:List Nat) (σ:St) (g:CA→TG) (tt:CA→TT) (te:CA→TE) (ys:List V) (Nx:List V→Hp→Prop) (x:V) (H:Hp):Prop :=
  ∀ ca,g ca x (slots k fr σ) H fun σ2 H2=>(List.drop k σ2=fr.map (fun i=>(σ[i]?).join)∧σ2.length=k + fr.length)∧tt ca σ2 H2 fun b H3=>if b=true then te ca σ2 H3 fun v H4=>Nx (ys ++ [v]) H4 else Nx ys H3
theorem comp_by {J:It} {n:Nat} (Pv:Nat→List V→Hp→Prop) (hz:n < sizeLine) (h0:Pv 0 [] H) (hj:∀ i ys H,i < n→Pv i ys H→J.go i H∧∀ x H',J.yld i H x H'→CStep k fr σ g tt te ys (Pv (i + 1)) x H')
    (hd:∀ ys H,Pv n ys H→J.stop n H∧F ys H):∃ W:Nat→Nat→List V→Hp→Prop,(∃ m,W 0 m [] H)∧CTurn J k fr σ g tt te W F:=by
  refine ⟨fun i m ys H=>m=n - i∧i≤n∧ys.length≤i∧Pv i ys H,⟨n,by simp,Nat.zero_le _,Nat.zero_le _,h0⟩,?_⟩
  rintro i m ys H ⟨rfl,hi,hy,p⟩
  refine ⟨by omega,fun ca=>?_⟩
  by_cases hlt:i < n
  · obtain ⟨go,st⟩:=hj i ys H hlt p
    refine .inr ⟨go,by omega,Pv (i + 1),fun v H' z=>⟨n - (i + 1),by omega,rfl,hlt,by rw [List.length_append,List.length_singleton]; omega,z⟩,fun H' z=>⟨n - (i + 1),by omega,rfl,hlt,by omega,z⟩,fun x H' y=>st x H' y ca⟩
  · have e:i=n:=by omega
    subst e
    exact .inl (hd ys H p)
theorem comp_list {K:PySem.W.Frag} {a:Addr} {xs:List V} (Pv:Nat→List V→Hp→Prop) (hz:xs.length < sizeLine) (h0:Pv 0 [] H) (hl:∀ i ys H,i≤xs.length→Pv i ys H→SqL K H a xs)
    (hs:∀ i x ys H,xs[i]?=some x→Pv i ys H→CStep k fr σ g tt te ys (Pv (i + 1)) x H)
    (hd:∀ ys H,Pv xs.length ys H→F ys H):∃ W:Nat→Nat→List V→Hp→Prop,(∃ m,W 0 m [] H)∧CTurn (Itl K a) k fr σ g tt te W F:=by
  refine comp_by (n:=xs.length) Pv hz h0 (fun i ys H hi p=>⟨⟨xs,xs[i],hl i ys H (Nat.le_of_lt hi) p,by simp [hi]⟩,fun x H' ⟨e,y⟩=>?_⟩) fun ys H p=>⟨⟨xs,hl _ ys H (Nat.le_refl _) p,Nat.le_refl _⟩,hd ys H p⟩
  subst e
  exact hs i x ys _ (y xs (hl i ys _ (Nat.le_of_lt hi) p)) p
theorem comp_range {lo:Int} {n:Nat} (Pv:Nat→List V→Hp→Prop) (hz:n < sizeLine) (h0:Pv 0 [] H)
    (hs:∀ i ys H,i < n→Pv i ys H→CStep k fr σ g tt te ys (Pv (i + 1)) (.int (lo + i)) H)
    (hd:∀ ys H,Pv n ys H→F ys H):∃ W:Nat→Nat→List V→Hp→Prop,(∃ m,W 0 m [] H)∧CTurn (Itr lo n) k fr σ g tt te W F:=by
  refine comp_by (n:=n) Pv hz h0 (fun i ys H hi p=>⟨hi,fun x H' ⟨e,y⟩=>?_⟩) fun ys H p=>⟨Nat.le_refl _,hd ys H p⟩
  subst e y
  exact hs i ys _ hi p
theorem comp_enum {K:PySem.W.Frag} {a:Addr} {xs:List V} (Pv:Nat→List V→Hp→Prop) (hz:xs.length < sizeLine) (h0:Pv 0 [] H) (hl:∀ i ys H,i≤xs.length→Pv i ys H→SqL K H a xs)
    (hs:∀ i x ys H p,xs[i]?=some x→Pv i ys H→H p=none→CStep k fr σ g tt te ys (Pv (i + 1)) (.ref p) (upd H p (.tup [.int (i:Nat),x])))
    (hd:∀ ys H,Pv xs.length ys H→F ys H):∃ W:Nat→Nat→List V→Hp→Prop,(∃ m,W 0 m [] H)∧CTurn (Ite K a) k fr σ g tt te W F:=by
  refine comp_by (n:=xs.length) Pv hz h0 (fun i ys H hi p=>⟨⟨xs,xs[i],hl i ys H (Nat.le_of_lt hi) p,by simp [hi]⟩,fun v H' y=>?_⟩) fun ys H p=>⟨⟨xs,hl _ ys H (Nat.le_refl _) p,Nat.le_refl _⟩,hd ys H p⟩
  obtain ⟨pt,x,rfl,hn,rfl,y⟩:=y
  exact hs i x ys H pt (y xs (hl i ys _ (Nat.le_of_lt hi) p)) p hn
end
end L2
namespace L2
open PySem PySem.Spec PyProof.Rows
abbrev TJ:=St→Hp→(Hp→Prop)→Prop
def PJ (X:Cx) (n:Nat) (vs:List Expr) (t:TJ):Prop :=
  ∀ (pins:List (Addr × Obj)) (s:Shared) (σ:St) (H:Hp) (Q:VK) (acc:Str),acc.length + 3000 * n≤100000→Inv X pins σ H s→t σ H (fun H1=>∀ z:Str,Q (.str z) H1) →
    wpAny (model X.prog X.w) X.A (joinParts acc (evalEach vs X.env)) (EP X pins σ Q) X.xe s
section
variable {X : Cx} {e : Expr} {te : TE} {pos p3 p4 : Pos} {c : Str} {k n : Nat} {vs : List Expr} {t : TJ}
theorem line100 {n:Nat} (h:n≤100000):n≤sizeLine:=by rw [sizeLine_eq]; omega
theorem pj_nil:PJ X 0 [] (fun _ H Q=>Q H):=fun _ _ _ H Q acc ha I h=>joinParts_nil ⟨.str _,H,I.tok _,⟨_,rfl⟩,h _⟩ (line100 (by omega))
theorem pj_str (hv:PJ X n vs t):PJ X (n + 1) (.Constant (.str c) k p3 :: vs) (fun σ H Q=>c.length≤1000∧t σ H Q):=fun pins s σ H Q acc ha I ⟨hc,h⟩=>by
  show wpAny _ _ (joinParts acc (eval (.Constant (.str c) k p3) X.env :: evalEach vs X.env)) _ _ s
  refine joinParts_cons (Calls.Constant_str ?_)
  have I0:Inv X pins σ H { s with toks:=s.toks + 1 }:=I.tok _
  exact ⟨line100 (by rw [strLen_append]; omega),hv pins _ σ H Q _ (by rw [strLen_append]; omega) I0 h⟩
theorem pj_int (he:PE X e te) (hv:PJ X n vs t):PJ X (n + 1) (.FormattedValue e (-1) none p4 :: vs) (fun σ H Q=>te σ H fun x H1=>∃ i,x=.int i∧i.natAbs.log2 < 1920∧t σ H1 Q):=fun pins s σ H Q acc ha I h=>by
  show wpAny _ _ (joinParts acc (eval (.FormattedValue e (-1) none p4) X.env :: evalEach vs X.env)) _ _ s
  refine joinParts_cons (FormattedValue_plain (thn (he pins _ σ H _ I h) fun u s1 ⟨x,H1,I1,rx,i,ex,hi,q⟩=>?_))
  subst ex
  obtain ⟨t,rfl⟩:=rx
  refine formatField_int_small hi ?_
  have hl:=int_text_length_le (k:=1920) (by decide) hi
  have hz:(acc ++ Str.ofString (toString i)).length + 3000 * n≤100000:=by rw [strLen_append,PySem.ofString_length]; omega
  exact ⟨line100 (by omega),hv pins _ σ H1 Q _ hz (I1.tok _) q⟩
def tFsN (t:TJ):TE:=fun σ H Q=>t σ H fun H1=>∀ z:Str,Q (.str z) H1
theorem pe_fstrN {v1 v2:Expr} (hv:PJ X n (v1 :: v2 :: vs) t) (hn:n≤20:=by decide):PE X (.JoinedStr (v1 :: v2 :: vs) pos) (tFsN t):=fun pins s σ H Q I h =>
  JoinedStr_many (hv pins s σ H Q Str.empty (by have:Str.empty.length=0:=rfl; omega) I h)
end
end L2
namespace L2
open PySem PySem.Spec PyProof.Rows
section
variable {env : Env} {es : List Expr}
theorem st_ListComp {a b c p}:starEach (.ListComp a b c p :: es) env=(false,eval (.ListComp a b c p) env) :: starEach es env:=by rfl
end
end L2
namespace L2
def STup (H H':Hp):Prop:=∀ p xs,H p=some (.tup xs)→H' p=some (.tup xs)
theorem same_st {H H':Hp} (e:Same H H'):STup H H':=fun p _ h=>e p _ h
theorem STup.trans {H H' H'':Hp} (e:STup H H') (e':STup H' H''):STup H H'':=fun p xs h=>e' p xs (e p xs h)
theorem stup_lst {H:Hp} {l:PySem.Addr} {ys:List V} {o:HO} (h:H l=some (.lst ys)):STup H (upd H l o):=fun p xs e=>by
  rw [upd_ne (ne_of e h (by intro z; cases z))]; exact e
theorem same_upd {H H':Hp} {l:PySem.Addr} {o:HO} (e:Same H H') (n:H l=Option.none):Same H (upd H' l o):=fun p u h=>by
  rw [upd_ne (ne_of_none h n)]; exact e p u h
theorem same_none {H H':Hp} {l:PySem.Addr} (e:Same H H') (n:H' l=Option.none):H l=Option.none:=by
  cases h:H l with
  | none=>rfl
  | some o=>rw [e _ _ h] at n; cases n
theorem same_lst {K:PySem.W.Frag} {H H':Hp} {a:PySem.Addr} {xs:List V} (e:Same H H') (h:SqL K H a xs):SqL K H' a xs:=by
  rcases h with (h | ⟨o,h⟩) | h
  · exact .inl (.inl (e _ _ h))
  · exact .inl (.inr ⟨o,e _ _ h⟩)
  · exact .inr h
end L2
namespace L2
open PySem PySem.Spec PyProof.Rows
def Alike (K:PySem.W.Frag) (H:Hp):Nat→V→V→Prop
  | 0,x,y=>x=y∧((∃ a,x=.ref a)∨flatV x=true)
  | n + 1,x,y=>(x=y∧((∃ a,x=.ref a)∨flatV x=true))∨∃ a b xs ys,x=.ref a∧y=.ref b∧((SqL K H a xs∧SqL K H b ys)∨(SqT K H a xs∧SqT K H b ys))∧Paired (Alike K H n) xs ys
theorem eqV_refl {x:V} (h:flatV x=true):eqV x x=true:=by cases x <;> simp_all [flatV,eqV]
theorem alike_flat {A:Around} {s:Shared} {x:V} {u v:Value} (h:(∃ a,x=.ref a)∨flatV x=true) (ru:RelV x u) (rv:RelV x v):SeqAt.EqAt A s u v true:=by
  rcases h with ⟨a,rfl⟩ | h
  · cases ru; cases rv; exact SeqAt.EqAt.same _
  · have:=eqAt_V (A:=A) (s:=s) ru rv h h
    rw [eqV_refl h] at this
    exact this
theorem vals_at {xs:List V} {us:List Value} (r:Vals xs us) (j:Nat) (h:j < us.toArray.size):∃ x,xs[j]?=some x∧RelV x us.toArray[j]:=by
  have l:=r.length
  have h':j < us.length:=by simpa using h
  have e1:xs[j]?=some (xs[j]'(by omega)):=List.getElem?_eq_getElem (by omega)
  obtain ⟨u,eu,ru⟩:=r.get e1
  refine ⟨_,e1,?_⟩
  rw [List.getElem?_eq_getElem h'] at eu
  have:us.toArray[j]=u:=by simpa using Option.some.inj eu
  rw [this]; exact ru
theorem paired_at {α β:Type} {F:α→β→Prop}:∀ {xs:List α} {ys:List β} {i:Nat} {x:α} {y:β},Paired F xs ys→xs[i]?=some x→ys[i]?=some y→F x y
  | _ :: _,_ :: _,0,_,_,.cons h _,e,e'=>by simp at e e'; subst e; subst e'; exact h
  | _ :: _,_ :: _,i + 1,_,_,.cons _ t,e,e'=>paired_at (i:=i) t (by simpa using e) (by simpa using e')
theorem all_true (n:Nat):(List.range n).all (fun _=>true)=true:=by simp
section
variable {X : Cx} {pins : List (Addr × Obj)} {σ : St} {H : Hp} {s : Shared}
theorem alike_eqAt (I:Inv X pins σ H s):∀ (n:Nat) (A:Around) (x y:V) (u v:Value),A.units + n < cLine→Alike X.K H n x y→RelV x u→RelV y v→SeqAt.EqAt A s u v true
  | 0,A,x,y,u,v,_,h,ru,rv=>by
    obtain ⟨rfl,h⟩:=h
    exact alike_flat h ru rv
  | n + 1,A,x,y,u,v,hA,h,ru,rv=>by
    rcases h with ⟨rfl,h⟩ | ⟨a,b,xs,ys,rfl,rfl,h,p⟩
    · exact alike_flat h ru rv
    · cases ru
      cases rv
      by_cases hab:a=b
      · subst hab; exact SeqAt.EqAt.same _
      · have items:∀ {us ws:List Value},Vals xs us→Vals ys ws→∀ j (h1:j < us.toArray.size) (h2:j < ws.toArray.size),SeqAt.EqAt A.in1 s us.toArray[j] ws.toArray[j] ((fun _=>true) j):=fun r q j h1 h2=>by
          obtain ⟨x,ex,rx⟩:=vals_at r j h1
          obtain ⟨y,ey,ry⟩:=vals_at q j h2
          exact alike_eqAt I n A.in1 x y _ _ (by show A.units + 1 + n < cLine; omega) (paired_at p ex ey) rx ry
        have ln:=p.length
        rcases h with ⟨ha,hb⟩ | ⟨ha,hb⟩
        · obtain ⟨us,r,pa,_⟩:=I.list ha
          obtain ⟨ws,q,pb,_⟩:=I.list hb
          have:=SeqAt.RcAt.lists (A:=A) (s:=s) pa.isList pb.isList (by rw [List.size_toArray,List.size_toArray,← r.length,← q.length,ln]) (by omega) (items r q)
          rw [all_true] at this
          exact SeqAt.EqAt.of_refs hab this
        · obtain ⟨us,r,pa,_⟩:=I.tuple ha
          obtain ⟨ws,q,pb,_⟩:=I.tuple hb
          have:=SeqAt.RcAt.tuples (A:=A) (s:=s) pa pb (by omega) (items r q)
          have e:us.toArray.size=ws.toArray.size:=by rw [List.size_toArray,List.size_toArray,← r.length,← q.length,ln]
          rw [all_true,e,beq_self_eq_true] at this
          exact SeqAt.EqAt.of_refs hab this
theorem alike_items {n:Nat} (I:Inv X pins σ H s) {xs ys:List V} {us ws:List Value} (hA:X.A.units + (n + 1) < cLine) (p:Paired (Alike X.K H n) xs ys) (r:Vals xs us) (q:Vals ys ws) :
    ∀ j (h1:j < us.toArray.size) (h2:j < ws.toArray.size),SeqAt.EqAt X.A.in1 s us.toArray[j] ws.toArray[j] ((fun _=>true) j):=fun j h1 h2=>by
  obtain ⟨x,ex,rx⟩:=vals_at r j h1
  obtain ⟨y,ey,ry⟩:=vals_at q j h2
  exact alike_eqAt I n X.A.in1 x y _ _ (by show X.A.units + 1 + n < cLine; omega) (paired_at p ex ey) rx ry
def rAlL (K:PySem.W.Frag) (n:Nat) (b:Bool):R2:=fun x y H Q=>∃ l m xs ys,x=.ref l∧y=.ref m∧SqL K H l xs∧SqL K H m ys∧Paired (Alike K H n) xs ys∧Q (.bl b) H
end
section
variable {X : Cx} {n : Nat}
theorem op_eqAL (n:Nat) (hA:X.A.units + (n + 1) < cLine):OpR X (compareOp .Eq) (rAlL X.K n true):=by
  intro pins s σ H x y v u Q I rx ry h
  obtain ⟨l,m,xs,ys,rfl,rfl,ha,hb,p,q⟩:=h
  cases rx
  cases ry
  obtain ⟨us,r,pa,_⟩:=I.list ha
  obtain ⟨ws,r2,pb,_⟩:=I.list hb
  refine SeqAt.eq_listAt pa.isList pb.isList (by rw [List.size_toArray,List.size_toArray,← r.length,← r2.length,p.length]) (by omega) (alike_items I hA p r r2) ⟨.bl true,H,I,?_,q⟩
  rw [all_true]; rfl
theorem Room.al {k:Nat} {A:Around} (r:Room k A) (n:Nat) (h:n≤50:=by decide):A.units + (n + 1) < cLine:=by have:=r.un; omega
theorem alike_self {K:PySem.W.Frag} {H:Hp}:∀ {xs:List V},(∀ x∈xs,(∃ a,x=.ref a)∨flatV x=true)→Paired (Alike K H 0) xs xs
  | [],_=>.nil
  | x :: _,h=>.cons ⟨rfl,h x List.mem_cons_self⟩ (alike_self fun y hy=>h y (List.mem_cons_of_mem _ hy))
end
end L2
namespace L2
theorem seqK {A B:TS} {D:Ends} {σ:St} {H:Hp} (Mid:St→Hp→Prop) (hA:∀ nx:St→Hp→Prop,(∀ σ H,Mid σ H→nx σ H)→A { D with nx:=nx } σ H) (hB:∀ σ H,Mid σ H→B D σ H):tSeq A B D σ H:=hA (B D) hB
end L2
namespace L2
open PySem PySem.Spec PyProof.Rows
structure RoomH (k:Nat) (A:Around):Prop where
  dp:A.depth + 3 * k + 5 < recursionLimit
  un:A.units + 16 * k + 200 < cLine
  gd:A.guards=some []
theorem Room.h {k:Nat} {A:Around} (r:Room k A):RoomH k A:=⟨r.dp,r.un,r.gd⟩
theorem RoomH.mark {k:Nat} {A:Around} {v:Option Value} (r:RoomH k A):RoomH k (A.mark v):=⟨r.dp,r.un,r.gd⟩
structure FnOkH (P:Program) (w:World) (K:PySem.W.Frag) (mg:Str→Option Value) (base:Heap) (CX:CXT) (k:Nat) (f:Addr) (fd:FuncData) (ps:List Str) (sp:Sp):Prop where
  len:∀ vs H Q E,sp vs H Q E→vs.length=ps.length
  run:∀ (A:Around) (outer:List Env) (s:Shared) (H:Hp) (args:Args) (us:List Value) (vs:List V) (Q:VK) (E:XK),RoomH k A→Env0 P w K mg base A outer s H→BindsTo s fd args (ps.zip us)→Vals vs us→sp vs H Q E →
    codeAny (model P w) A (.call (.ref f) args) (CR CX outer P w H s Q E) s
abbrev Cx.dull (X:Cx):Cx:={ X with calm:=false,xe:=fun _ _=>False }
structure Dh (P:Program) (w:World) (K:PySem.W.Frag) (mg:Str→Option Value) (base:Heap) (k:Nat) (x:Str) (ps:List Str) (sp:Sp):Prop where
  ex:∃ f fd,mg x=some (.ref f)∧PySem.W.keepIn K (.ref f)=true∧Binds K fd ps []∧FnOkH P w K mg base (CXE P w) k f fd ps sp
section
variable {X : Cx} {k : Nat} {ps : List Str} {sp : Sp} {E : XK} {x : Str} {p pos : Pos} {e : Expr} {es : List Expr} {t : TA}
end
end L2
namespace L2
open PySem PySem.Spec PyProof.Rows
end L2
namespace L2
open PySem PySem.Spec PyProof.Rows
section
variable {X : Cx} {asg : List Nat} {x : Str} {C : Addr} {b0 : Stmt} {body suite : List Stmt} {tb : XK → List (Addr × Obj) → (Nat → Option V) → (Value → Shared → Prop) → TS} {th : Addr → List (Addr × Obj) → TS} {np pos hpos : Pos}
def tTryBE (K:PySem.W.Frag) (C:Addr) (asg:List Nat) (tb:XK→List (Addr × Obj)→(Nat→Option V)→(Value→Shared→Prop)→TS) (th:Addr→List (Addr × Obj)→TS):TS:=fun D σ H=>∃ E:XK,tTryB K C E asg (tb E) th D σ H
theorem ps_tryBE (hm:X.mg x=some (.ref C)) (hg:Gl X x) (hex:X.ex=[]) (hst:X.stack=X.env :: X.outer∧X.env.frame=some X.env.locals) (hk:∀ i,X.kn i=Option.none)
    (hb:∀ E pn k xe,Passes (CXE X.prog X.w) (X.tr asg pn k xe) E→PassesOwn (model X.prog X.w) X.A X.env xe→PSs (X.tr asg pn k xe) body (tb E pn k xe))
    (hh:∀ y pn,PSs (X.hd y pn fun _ _=>False) (b0 :: suite) (th y pn)) (hd:(x == ("__debug__":Str))=false:=by decide) :
    PS X (.Try body [.ExceptHandler (some (.Name x np)) none (b0 :: suite) hpos] [] [] pos) (tTryBE X.K C asg tb th):=fun pins s σ H D I ⟨E,h⟩=>ps_tryB hm hg hex hst hk (hb E) hh hd pins s σ H D I h
end
end L2
namespace L2
open PySem PySem.Spec PyProof.Rows
section
variable {X : Cx}
end
end L2
namespace PySem
namespace F
end F
section
variable {prog : Program} {w : World} {A : Around} {s : Shared} {R : Result → Shared → Prop}
variable {I : Addr} {fp wr : List Addr} {G : Array GenState → Array GenState → Prop} {n : Nat} {P : Nat → Value → Prop} {St : Nat → Shared → Prop}
end
section
variable {prog : Program} {w : World} {A : Around} {E : Value → Shared → Prop} {s : Shared}
end
end PySem
namespace L2
open PySem PySem.Spec PyProof.Rows
section
variable {X : Cx}
end
end L2
namespace Ws
inductive Wd where
  | non | int (i:Int) | pair (a b:Int)
  deriving DecidableEq
inductive Kd where
  | fewest | widest | counted | likeliest | chances | musts | rests (m:Nat)
  deriving DecidableEq
def isShare:Wd→Bool
  | .pair a b=>decide (0 < b) && decide (Int.gcd a b=1)
  | _=>false
def isFrom:Wd→Int→Bool
  | .int i,l=>decide (l≤i)
  | _,_=>false
def isWorth:Kd→Wd→Bool
  | .fewest,w=>decide (w=.non) || isFrom w 0
  | .widest,.int i=>decide (0≤i) && decide (i≤1000000000)
  | .counted,w=>isFrom w (-1)
  | .likeliest,.pair a b=>isShare (.pair a b) && (decide (0≤a) && decide (a≤b))
  | .chances,.pair a b=>isShare (.pair a b) && decide (0≤a)
  | .musts,w=>decide (w=.non) || isFrom w 0
  | .rests m,.int i=>decide (0≤i) && decide (i < 2 ^ m)
  | _,_=>false
def KdOk:Kd→Prop
  | .rests m=>1≤m∧m≤12
  | _=>True
def kdOf (which:Int) (m:Int):Kd :=
  if which=0 then .fewest else if which=1 then .widest else if which=2 then .counted else if which=3 then .likeliest else if which=4 then .chances else if which=5 then .musts else .rests m.toNat
def shareW (t b:Int):Wd:=.pair (t / (Int.gcd t b:Int)) (b / (Int.gcd t b:Int))
def noneW (which:Int):Wd:=if which=0∨which=5 then .non else if which=3∨which=4 then .pair 0 1 else .int 0
def restW (which:Int):Wd:=if which=0∨which=5 then .int 0 else if which=1 then .int 1000000000 else if which=3∨which=4 then .pair 1 1 else .int 1
def worthW (which m cell:Int):Wd :=
  if cell % 6=1 then noneW which else if cell % 6=2 then restW which
  else if which=0 then .int (if cell % 6 < 5 then cell / 6 % 20 else cell / 6 % 10 ^ 30)
  else if which=1 then .int (if cell % 6 < 5 then cell / 6 % 20 else cell / 6 % (10 ^ 9 + 1))
  else if which=2 then .int (if cell % 6 < 5 then cell / 6 % 5 - 1 else cell / 6 % 10 ^ 30)
  else if which=3 then shareW (cell / 6 % (1 + cell / 6 / 7 % 12 + 1)) (1 + cell / 6 / 7 % 12)
  else if which=4 then shareW (cell / 6 % 9) (1 + cell / 6 / 9 % 12)
  else if which=5 then .int (if cell % 6 < 5 then cell / 6 % 16 else cell / 6 % 10 ^ 30)
  else .int (cell / 6 % 2 ^ m.toNat)
theorem gcd_step (x y:Int):Int.gcd y (x % y)=Int.gcd x y:=by
  rw [Int.gcd_comm x y]
  refine Int.gcd_right_eq_iff.mpr fun c hc=>?_
  have e:x=x % y + y * (x / y):=(Int.emod_add_mul_ediv x y).symm
  have h2:c ∣ y * (x / y):=Int.dvd_trans hc (Int.dvd_mul_right _ _)
  constructor
  · intro h; rw [e]; exact Int.dvd_add h h2
  · intro h
    have:x % y=x - y * (x / y):=by omega
    rw [this]; exact Int.dvd_sub h h2
theorem gcd_pos {a b:Int} (h:0 < b):0 < (Int.gcd a b:Int):=by
  have:0 < Int.gcd a b:=Int.gcd_pos_iff.mpr (.inr (by omega))
  exact Int.natCast_pos.mpr this
theorem shareW_bounds {t b:Int} (ht:0≤t) (h:0 < b):∃ x y,shareW t b=.pair x y∧0≤x∧x≤t∧0 < y∧y≤b∧(t≤b→x≤y)∧Int.gcd x y=1:=by
  have g:=gcd_pos (a:=t) h
  have hb:(Int.gcd t b:Int) ∣ b:=Int.gcd_dvd_right ..
  refine ⟨_,_,rfl,Int.ediv_nonneg ht (Int.le_of_lt g),Int.ediv_le_self _ ht,Int.ediv_pos_of_pos_of_dvd h (Int.le_of_lt g) hb,Int.ediv_le_self _ (Int.le_of_lt h),fun le=>Int.ediv_le_ediv g le,?_⟩
  exact Int.gcd_ediv_gcd_ediv_gcd (by exact_mod_cast g)
theorem isWorth_none {which m:Int} (h0:0≤which) (h7:which < 7):isWorth (kdOf which m) (noneW which)=true:=by
  have:which=0∨which=1∨which=2∨which=3∨which=4∨which=5∨which=6:=by omega
  rcases this with rfl | rfl | rfl | rfl | rfl | rfl | rfl <;> simp [kdOf,noneW,isWorth,isShare,isFrom]
  exact Int.pow_pos (by decide)
theorem isWorth_rest {which m:Int} (h0:0≤which) (h7:which < 7) (hm:1≤m):isWorth (kdOf which m) (restW which)=true:=by
  have:which=0∨which=1∨which=2∨which=3∨which=4∨which=5∨which=6:=by omega
  rcases this with rfl | rfl | rfl | rfl | rfl | rfl | rfl <;> simp [kdOf,restW,isWorth,isShare,isFrom]
  obtain ⟨k,hk⟩:∃ k:Nat,m.toNat=k + 1:=⟨m.toNat - 1,by omega⟩
  rw [hk,Int.pow_succ]
  have:(0:Int) < 2 ^ k:=Int.pow_pos (by decide)
  omega
theorem isWorth_worth {which m cell:Int} (h0:0≤which) (h7:which < 7) (hm:1≤m):isWorth (kdOf which m) (worthW which m cell)=true:=by
  unfold worthW
  split
  · exact isWorth_none h0 h7
  split
  · exact isWorth_rest h0 h7 hm
  have e30:∀ c:Int,0≤c % 10 ^ 30:=fun c=>Int.emod_nonneg _ (by decide)
  have:which=0∨which=1∨which=2∨which=3∨which=4∨which=5∨which=6:=by omega
  rcases this with rfl | rfl | rfl | rfl | rfl | rfl | rfl
  · simp only [kdOf,isWorth,isFrom,if_true]
    have:=e30 (cell / 6)
    split <;> simp <;> omega
  · simp [kdOf,isWorth]
    split <;> omega
  · simp [kdOf,isWorth,isFrom]
    have:=e30 (cell / 6)
    split <;> omega
  · obtain ⟨x,y,e,a1,a2,a3,a4,a5,a6⟩:=shareW_bounds (t:=cell / 6 % (1 + cell / 6 / 7 % 12 + 1)) (b:=1 + cell / 6 / 7 % 12) (Int.emod_nonneg _ (by omega)) (by omega)
    simp only [show ¬ ((3:Int)=0) by decide,show ¬ ((3:Int)=1) by decide,show ¬ ((3:Int)=2) by decide,if_false,if_true,kdOf]
    rw [e]
    have lt:=Int.emod_lt_of_pos (cell / 6) (show 0 < 1 + cell / 6 / 7 % 12 + 1 by omega)
    have:=a5 (by omega)
    simp only [isWorth,isShare,Bool.and_eq_true,decide_eq_true_eq]
    exact ⟨⟨a3,a6⟩,a1,this⟩
  · obtain ⟨x,y,e,a1,a2,a3,a4,a5,a6⟩:=shareW_bounds (t:=cell / 6 % 9) (b:=1 + cell / 6 / 9 % 12) (by omega) (by omega)
    simp only [show ¬ ((4:Int)=0) by decide,show ¬ ((4:Int)=1) by decide,show ¬ ((4:Int)=2) by decide,show ¬ ((4:Int)=3) by decide,if_false,if_true,kdOf]
    rw [e]
    simp only [isWorth,isShare,Bool.and_eq_true,decide_eq_true_eq]
    exact ⟨⟨a3,a6⟩,a1⟩
  · simp [kdOf,isWorth,isFrom]
    have:=e30 (cell / 6)
    split <;> omega
  · simp only [show ¬ ((6:Int)=0) by decide,show ¬ ((6:Int)=1) by decide,show ¬ ((6:Int)=2) by decide,show ¬ ((6:Int)=3) by decide,show ¬ ((6:Int)=4) by decide,show ¬ ((6:Int)=5) by decide,if_false,kdOf,isWorth,Bool.and_eq_true,decide_eq_true_eq]
    have p:(0:Int) < 2 ^ m.toNat:=Int.pow_pos (by decide)
    exact ⟨Int.emod_nonneg _ (Int.ne_of_gt p),Int.emod_lt_of_pos _ p⟩
end Ws
namespace Ws
structure KSR (S:Type) where
  zero:S
  one:S
  add:S→S→S
  mul:S→S→S
  star:S→Option S
  add_assoc:∀ a b c,add (add a b) c=add a (add b c)
  add_comm:∀ a b,add a b=add b a
  zero_add:∀ a,add zero a=a
  mul_assoc:∀ a b c,mul (mul a b) c=mul a (mul b c)
  mul_comm:∀ a b,mul a b=mul b a
  one_mul:∀ a,mul one a=a
  zero_mul:∀ a,mul zero a=zero
  mul_add:∀ a b c,mul a (add b c)=add (mul a b) (mul a c)
  anti:∀ a b c d,add a c=b→add b d=a→a=b
  star_eq:∀ a s,star a=some s→s=add one (mul a s)
  star_ind:∀ a s b x c,star a=some s→add (add b (mul a x)) c=x→∃ d,add (mul s b) d=x
def oMin:Option Nat→Option Nat→Option Nat
  | none,b=>b
  | a,none=>a
  | some i,some j=>some (min i j)
def oAdd:Option Nat→Option Nat→Option Nat
  | some i,some j=>some (i + j)
  | _,_=>none
def oMul:Option Nat→Option Nat→Option Nat
  | some i,some j=>some (i * j)
  | some 0,none=>some 0
  | none,some 0=>some 0
  | _,_=>none
def oAnd:Option Nat→Option Nat→Option Nat
  | none,b=>b
  | a,none=>a
  | some i,some j=>some (i &&& j)
def oOr:Option Nat→Option Nat→Option Nat
  | some i,some j=>some (i ||| j)
  | _,_=>none
theorem anti_idem {S:Type} {add:S→S→S} (as:∀ a b c,add (add a b) c=add a (add b c)) (cm:∀ a b,add a b=add b a) (id:∀ a,add a a=a) (a b c d:S) (h1:add a c=b) (h2:add b d=a):a=b:=by
  have e1:add b a=b:=by rw [← h1,as,cm c a,← as,id]
  have e2:add a b=a:=by rw [← h2,as,cm d b,← as,id]
  rw [← e2,cm,e1]
theorem star1_ind {S:Type} {add mul:S→S→S} {one:S} (as:∀ a b c,add (add a b) c=add a (add b c)) (om:∀ a,mul one a=a) (a b x c:S) (h:add (add b (mul a x)) c=x):∃ d,add (mul one b) d=x :=
  ⟨add (mul a x) c,by rw [om,← as]; exact h⟩
def ksFewest:KSR (Option Nat) where
  zero:=none
  one:=some 0
  add:=oMin
  mul:=oAdd
  star:=fun _=>some (some 0)
  add_assoc:=fun a b c=>by cases a <;> cases b <;> cases c <;> simp [oMin,Nat.min_assoc]
  add_comm:=fun a b=>by cases a <;> cases b <;> simp [oMin,Nat.min_comm]
  zero_add:=fun a=>by cases a <;> rfl
  mul_assoc:=fun a b c=>by cases a <;> cases b <;> cases c <;> simp [oAdd,Nat.add_assoc]
  mul_comm:=fun a b=>by cases a <;> cases b <;> simp [oAdd,Nat.add_comm]
  one_mul:=fun a=>by cases a <;> simp [oAdd]
  zero_mul:=fun a=>by cases a <;> rfl
  mul_add:=fun a b c=>by cases a <;> cases b <;> cases c <;> simp [oAdd,oMin,Nat.add_min_add_left]
  anti:=anti_idem (fun a b c=>by cases a <;> cases b <;> cases c <;> simp [oMin,Nat.min_assoc]) (fun a b=>by cases a <;> cases b <;> simp [oMin,Nat.min_comm]) (fun a=>by cases a <;> simp [oMin])
  star_eq:=fun a s h=>by cases h; cases a <;> simp [oAdd,oMin]
  star_ind:=fun a s b x c h=>by
    cases h
    exact star1_ind (fun a b c=>by cases a <;> cases b <;> cases c <;> simp [oMin,Nat.min_assoc]) (fun a=>by cases a <;> simp [oAdd]) a b x c
theorem and_or_distrib (i j k:Nat):i ||| (j &&& k)=(i ||| j) &&& (i ||| k):=by
  apply Nat.eq_of_testBit_eq; intro n; simp only [Nat.testBit_or,Nat.testBit_and]; cases i.testBit n <;> simp
def ksMusts:KSR (Option Nat) where
  zero:=none
  one:=some 0
  add:=oAnd
  mul:=oOr
  star:=fun _=>some (some 0)
  add_assoc:=fun a b c=>by cases a <;> cases b <;> cases c <;> simp [oAnd,Nat.and_assoc]
  add_comm:=fun a b=>by cases a <;> cases b <;> simp [oAnd,Nat.and_comm]
  zero_add:=fun a=>by cases a <;> rfl
  mul_assoc:=fun a b c=>by cases a <;> cases b <;> cases c <;> simp [oOr,Nat.or_assoc]
  mul_comm:=fun a b=>by cases a <;> cases b <;> simp [oOr,Nat.or_comm]
  one_mul:=fun a=>by cases a <;> simp [oOr]
  zero_mul:=fun a=>by cases a <;> rfl
  mul_add:=fun a b c=>by cases a <;> cases b <;> cases c <;> simp [oOr,oAnd,and_or_distrib]
  anti:=anti_idem (fun a b c=>by cases a <;> cases b <;> cases c <;> simp [oAnd,Nat.and_assoc]) (fun a b=>by cases a <;> cases b <;> simp [oAnd,Nat.and_comm]) (fun a=>by cases a <;> simp [oAnd])
  star_eq:=fun a s h=>by cases h; cases a <;> simp [oOr,oAnd]
  star_ind:=fun a s b x c h=>by
    cases h
    exact star1_ind (fun a b c=>by cases a <;> cases b <;> cases c <;> simp [oAnd,Nat.and_assoc]) (fun a=>by cases a <;> simp [oOr]) a b x c
def oStar:Option Nat→Option Nat
  | some 0=>some 1
  | _=>none
theorem oMul_some (i j:Nat):oMul (some i) (some j)=some (i * j):=by cases i <;> cases j <;> simp [oMul]
theorem oMul_comm (a b:Option Nat):oMul a b=oMul b a:=by
  cases a with
  | none=>cases b with
    | none=>rfl
    | some j=>cases j <;> rfl
  | some i=>cases b with
    | none=>cases i <;> rfl
    | some j=>rw [oMul_some,oMul_some,Nat.mul_comm]
theorem oMul_zero (a:Option Nat):oMul (some 0) a=some 0:=by cases a <;> simp [oMul]
theorem oMul_assoc (a b c:Option Nat):oMul (oMul a b) c=oMul a (oMul b c):=by
  rcases a with _ | _ | i <;> rcases b with _ | _ | j <;> rcases c with _ | _ | k <;> simp [oMul,Nat.mul_assoc,Nat.add_mul,Nat.mul_add,Nat.add_assoc]
theorem oMul_add (a b c:Option Nat):oMul a (oAdd b c)=oAdd (oMul a b) (oMul a c):=by
  rcases a with _ | _ | i <;> rcases b with _ | _ | j <;> rcases c with _ | _ | k <;> simp [oMul,oAdd,Nat.mul_add,Nat.add_mul] <;> first | rfl | omega | skip
theorem oAdd_assoc (a b c:Option Nat):oAdd (oAdd a b) c=oAdd a (oAdd b c):=by cases a <;> cases b <;> cases c <;> simp [oAdd,Nat.add_assoc]
theorem oAdd_comm (a b:Option Nat):oAdd a b=oAdd b a:=by cases a <;> cases b <;> simp [oAdd,Nat.add_comm]
def ksCounted:KSR (Option Nat) where
  zero:=some 0
  one:=some 1
  add:=oAdd
  mul:=oMul
  star:=fun a=>some (oStar a)
  add_assoc:=oAdd_assoc
  add_comm:=oAdd_comm
  zero_add:=fun a=>by cases a <;> simp [oAdd]
  mul_assoc:=oMul_assoc
  mul_comm:=oMul_comm
  one_mul:=fun a=>by
    cases a with
    | none=>rfl
    | some i=>rw [oMul_some,Nat.one_mul]
  zero_mul:=oMul_zero
  mul_add:=oMul_add
  anti:=fun a b c d h1 h2=>by
    cases a <;> cases b <;> cases c <;> cases d <;> simp [oAdd] at h1 h2 ⊢
    omega
  star_eq:=fun a s h=>by
    cases h
    rcases a with _ | _ | i <;> simp [oStar,oMul,oAdd]
  star_ind:=fun a s b x c h e=>by
    cases h
    rcases a with _ | _ | i
    · rcases b with _ | _ | j
      · have:x=none:=by rw [← e]; simp [oAdd]
        exact ⟨none,by rw [this]; rfl⟩
      · exact ⟨x,by cases x <;> simp [oStar,oMul,oAdd]⟩
      · refine ⟨none,?_⟩
        rcases x with _ | _ | n
        · rfl
        · rcases c with _ | k <;> simp [oMul,oAdd] at e
        · rcases c with _ | k <;> simp [oMul,oAdd] at e
    · refine ⟨c,?_⟩
      rw [← e,show oStar (some 0)=some 1 from rfl]
      rw [oMul_zero]
      cases b <;> simp [oMul,oAdd]
    · rcases b with _ | _ | j
      · have:x=none:=by rw [← e]; simp [oAdd]
        exact ⟨none,by rw [this]; rfl⟩
      · exact ⟨x,by cases x <;> simp [oStar,oMul,oAdd]⟩
      · refine ⟨none,?_⟩
        rcases x with _ | n
        · rfl
        · rcases c with _ | k
          · rw [oMul_some] at e; simp [oAdd] at e
          · rw [oMul_some] at e
            simp only [oAdd,Option.some.injEq] at e
            have:n≤(i + 1) * n:=Nat.le_mul_of_pos_left n (by omega)
            omega
abbrev Wid:={n:Nat // n≤1000000000}
def ksWidest:KSR Wid where
  zero:=⟨0,by omega⟩
  one:=⟨1000000000,by omega⟩
  add:=fun a b=>⟨max a.1 b.1,by have:=a.2; have:=b.2; omega⟩
  mul:=fun a b=>⟨min a.1 b.1,by have:=a.2; have:=b.2; omega⟩
  star:=fun _=>some ⟨1000000000,by omega⟩
  add_assoc:=fun a b c=>Subtype.ext (by simp [Nat.max_assoc])
  add_comm:=fun a b=>Subtype.ext (by simp [Nat.max_comm])
  zero_add:=fun a=>Subtype.ext (by simp)
  mul_assoc:=fun a b c=>Subtype.ext (by simp [Nat.min_assoc])
  mul_comm:=fun a b=>Subtype.ext (by simp [Nat.min_comm])
  one_mul:=fun a=>Subtype.ext (by have:=a.2; show min 1000000000 a.1=a.1; omega)
  zero_mul:=fun a=>Subtype.ext (by simp)
  mul_add:=fun a b c=>Subtype.ext (by show min a.1 (max b.1 c.1)=max (min a.1 b.1) (min a.1 c.1); omega)
  anti:=fun a b c d h1 h2=>Subtype.ext (by have:=congrArg Subtype.val h1; have:=congrArg Subtype.val h2; simp at *; omega)
  star_eq:=fun a s h=>by cases h; exact Subtype.ext (by have:=a.2; show 1000000000=max 1000000000 (min a.1 1000000000); omega)
  star_ind:=fun a s b x c h e=>by
    cases h
    exact star1_ind (add:=fun a b:Wid=>⟨max a.1 b.1,by have:=a.2; have:=b.2; omega⟩) (mul:=fun a b:Wid=>⟨min a.1 b.1,by have:=a.2; have:=b.2; omega⟩) (one:=⟨1000000000,by omega⟩) (fun a b c=>Subtype.ext (by simp [Nat.max_assoc])) (fun a=>Subtype.ext (by have:=a.2; show min 1000000000 a.1=a.1; omega)) a b x c e
end Ws
namespace Ws
abbrev Lik:={q:Rat // 0≤q∧q≤1}
abbrev Cha:={q:Rat // 0≤q}
theorem rmul_nonneg {a b:Rat} (ha:0≤a) (hb:0≤b):0≤a * b:=Rat.mul_nonneg ha hb
theorem rmul_le_one {a b:Rat} (ha:0≤a) (ha1:a≤1) (hb:0≤b) (hb1:b≤1):a * b≤1:=by
  have:=Rat.mul_le_mul_of_nonneg_left hb1 ha
  grind
def rmax (a b:Rat):Rat:=if a < b then b else a
theorem rmul_max {a b c:Rat} (ha:0≤a):a * rmax b c=rmax (a * b) (a * c):=by
  unfold rmax
  by_cases h:b < c
  · rw [if_pos h]
    by_cases z:a * b < a * c
    · rw [if_pos z]
    · rw [if_neg z]
      have:=Rat.mul_le_mul_of_nonneg_left (Rat.le_of_lt h) ha
      grind
  · rw [if_neg h]
    by_cases z:a * b < a * c
    · have:=Rat.mul_le_mul_of_nonneg_left (show c≤b by grind) ha
      grind
    · rw [if_neg z]
theorem rmax_assoc (a b c:Rat):rmax (rmax a b) c=rmax a (rmax b c):=by unfold rmax; grind
theorem rmax_comm (a b:Rat):rmax a b=rmax b a:=by unfold rmax; grind
def ksLikeliest:KSR Lik where
  zero:=⟨0,by grind⟩
  one:=⟨1,by grind⟩
  add:=fun a b=>⟨rmax a.1 b.1,by have:=a.2; have:=b.2; unfold rmax; grind⟩
  mul:=fun a b=>⟨a.1 * b.1,rmul_nonneg a.2.1 b.2.1,rmul_le_one a.2.1 a.2.2 b.2.1 b.2.2⟩
  star:=fun _=>some ⟨1,by grind⟩
  add_assoc:=fun a b c=>Subtype.ext (rmax_assoc _ _ _)
  add_comm:=fun a b=>Subtype.ext (rmax_comm _ _)
  zero_add:=fun a=>Subtype.ext (by have:=a.2; show rmax 0 a.1=a.1; unfold rmax; grind)
  mul_assoc:=fun a b c=>Subtype.ext (by show a.1 * b.1 * c.1=a.1 * (b.1 * c.1); grind)
  mul_comm:=fun a b=>Subtype.ext (by show a.1 * b.1=b.1 * a.1; grind)
  one_mul:=fun a=>Subtype.ext (by show 1 * a.1=a.1; grind)
  zero_mul:=fun a=>Subtype.ext (by show 0 * a.1=0; grind)
  mul_add:=fun a b c=>Subtype.ext (rmul_max a.2.1)
  anti:=fun a b c d h1 h2=>Subtype.ext (by have h1:rmax a.1 c.1=b.1:=congrArg Subtype.val h1; have h2:rmax b.1 d.1=a.1:=congrArg Subtype.val h2; unfold rmax at *; grind)
  star_eq:=fun a s h=>by cases h; exact Subtype.ext (by have:=a.2; show 1=rmax 1 (a.1 * 1); unfold rmax; grind)
  star_ind:=fun a s b x c h e=>by
    cases h
    refine ⟨⟨rmax (a.1 * x.1) c.1,by have:=a.2; have:=c.2; have:=rmul_nonneg a.2.1 x.2.1; have:=rmul_le_one a.2.1 a.2.2 x.2.1 x.2.2; unfold rmax; grind⟩,Subtype.ext ?_⟩
    have e:rmax (rmax b.1 (a.1 * x.1)) c.1=x.1:=congrArg Subtype.val e
    show rmax (1 * b.1) (rmax (a.1 * x.1) c.1)=x.1
    rw [← rmax_assoc,show 1 * b.1=b.1 by grind]
    exact e
theorem rinv_nonneg {a:Rat} (h:a < 1):0≤(1 - a)⁻¹:=Rat.le_of_lt (Rat.inv_pos.mpr (by grind))
def ksChances:KSR Cha where
  zero:=⟨0,by grind⟩
  one:=⟨1,by grind⟩
  add:=fun a b=>⟨a.1 + b.1,by have:=a.2; have:=b.2; grind⟩
  mul:=fun a b=>⟨a.1 * b.1,rmul_nonneg a.2 b.2⟩
  star:=fun a=>if h:a.1 < 1 then some ⟨(1 - a.1)⁻¹,rinv_nonneg h⟩ else none
  add_assoc:=fun a b c=>Subtype.ext (by show a.1 + b.1 + c.1=a.1 + (b.1 + c.1); grind)
  add_comm:=fun a b=>Subtype.ext (by show a.1 + b.1=b.1 + a.1; grind)
  zero_add:=fun a=>Subtype.ext (by show 0 + a.1=a.1; grind)
  mul_assoc:=fun a b c=>Subtype.ext (by show a.1 * b.1 * c.1=a.1 * (b.1 * c.1); grind)
  mul_comm:=fun a b=>Subtype.ext (by show a.1 * b.1=b.1 * a.1; grind)
  one_mul:=fun a=>Subtype.ext (by show 1 * a.1=a.1; grind)
  zero_mul:=fun a=>Subtype.ext (by show 0 * a.1=0; grind)
  mul_add:=fun a b c=>Subtype.ext (by show a.1 * (b.1 + c.1)=a.1 * b.1 + a.1 * c.1; grind)
  anti:=fun a b c d h1 h2=>Subtype.ext (by have h1:a.1 + c.1=b.1:=congrArg Subtype.val h1; have h2:b.1 + d.1=a.1:=congrArg Subtype.val h2; have:=c.2; have:=d.2; grind)
  star_eq:=fun a s h=>by
    split at h
    · cases h
      exact Subtype.ext (by show (1 - a.1)⁻¹=1 + a.1 * (1 - a.1)⁻¹; grind)
    · cases h
  star_ind:=fun a s b x c h e=>by
    split at h
    · rename_i lt
      cases h
      refine ⟨⟨(1 - a.1)⁻¹ * c.1,rmul_nonneg (rinv_nonneg lt) c.2⟩,Subtype.ext ?_⟩
      have e:b.1 + a.1 * x.1 + c.1=x.1:=congrArg Subtype.val e
      show (1 - a.1)⁻¹ * b.1 + (1 - a.1)⁻¹ * c.1=x.1
      grind
    · cases h
theorem chances_lt (x:Cha) (h:x.1 < 1):ksChances.star x=some ⟨(1 - x.1)⁻¹,rinv_nonneg h⟩:=dif_pos h
theorem chances_ge (x:Cha) (h:¬ x.1 < 1):ksChances.star x=none:=dif_neg h
end Ws
namespace Ws
def raisedN (m b i:Nat):Nat:=((b <<< i) &&& (2 ^ m - 1)) ||| ((b <<< i) >>> m)
def behN (m a b:Nat):Nat:=(List.range m).foldl (fun s i=>if a.testBit i then s ||| raisedN m b i else s) 0
def behTo (m a b n:Nat):Nat:=(List.range n).foldl (fun s i=>if a.testBit i then s ||| raisedN m b i else s) 0
theorem behTo_succ (m a b n:Nat):behTo m a b (n + 1)=if a.testBit n then behTo m a b n ||| raisedN m b n else behTo m a b n:=by
  unfold behTo; rw [List.range_succ,List.foldl_append]; rfl
theorem raised_bit {m b i k:Nat} (hb:b < 2 ^ m) (hi:i < m):(raisedN m b i).testBit k=true ↔ k < m∧∃ j,j < m∧b.testBit j=true∧(i + j) % m=k:=by
  have hz:∀ j,m≤j→b.testBit j=false:=fun j h=>Nat.testBit_lt_two_pow (Nat.lt_of_lt_of_le hb (Nat.pow_le_pow_right (by omega) h))
  unfold raisedN
  rw [Nat.testBit_or,Nat.testBit_and,Nat.testBit_shiftRight,Nat.testBit_two_pow_sub_one,Nat.testBit_shiftLeft,Nat.testBit_shiftLeft]
  simp only [Bool.or_eq_true,Bool.and_eq_true,decide_eq_true_eq]
  constructor
  · rintro (⟨⟨h1,h2⟩,h3⟩ | ⟨h1,h2⟩)
    · refine ⟨h3,k - i,by omega,h2,?_⟩
      rw [show i + (k - i)=k by omega,Nat.mod_eq_of_lt h3]
    · have h4:¬ m≤m + k - i:=fun z=>by rw [hz _ z] at h2; cases h2
      refine ⟨by omega,m + k - i,by omega,h2,?_⟩
      rw [show i + (m + k - i)=k + m by omega,Nat.add_mod_right,Nat.mod_eq_of_lt (by omega)]
  · rintro ⟨h1,j,h2,h3,h4⟩
    by_cases c:i + j < m
    · rw [Nat.mod_eq_of_lt c] at h4
      refine .inl ⟨⟨by omega,?_⟩,h1⟩
      rw [show k - i=j by omega]; exact h3
    · rw [show i + j=(i + j - m) + m by omega,Nat.add_mod_right,Nat.mod_eq_of_lt (by omega)] at h4
      refine .inr ⟨by omega,?_⟩
      rw [show m + k - i=j by omega]; exact h3
theorem behTo_bit {m a b k:Nat} (hb:b < 2 ^ m):∀ n,n≤m→((behTo m a b n).testBit k=true ↔ k < m∧∃ i j,i < n∧j < m∧a.testBit i=true∧b.testBit j=true∧(i + j) % m=k)
  | 0,_=>by simp [behTo]
  | n + 1,h=>by
    have ih:=behTo_bit (a:=a) (k:=k) hb n (by omega)
    rw [behTo_succ]
    by_cases c:a.testBit n=true
    · rw [if_pos c,Nat.testBit_or,Bool.or_eq_true,ih,raised_bit hb (by omega)]
      constructor
      · rintro (⟨h1,i,j,h2,h3,h4⟩ | ⟨h1,j,h2,h3,h4⟩)
        · exact ⟨h1,i,j,by omega,h3,h4⟩
        · exact ⟨h1,n,j,by omega,h2,c,h3,h4⟩
      · rintro ⟨h1,i,j,h2,h3,h4,h5,h6⟩
        by_cases e:i=n
        · subst e; exact .inr ⟨h1,j,h3,h5,h6⟩
        · exact .inl ⟨h1,i,j,by omega,h3,h4,h5,h6⟩
    · rw [if_neg c,ih]
      constructor
      · rintro ⟨h1,i,j,h2,h3,h4⟩; exact ⟨h1,i,j,by omega,h3,h4⟩
      · rintro ⟨h1,i,j,h2,h3,h4,h5,h6⟩
        refine ⟨h1,i,j,?_,h3,h4,h5,h6⟩
        have:i≠n:=fun e=>by subst e; exact c h4
        omega
theorem behN_bit {m a b k:Nat} (hb:b < 2 ^ m):(behN m a b).testBit k=true ↔ k < m∧∃ i j,i < m∧j < m∧a.testBit i=true∧b.testBit j=true∧(i + j) % m=k:=behTo_bit hb m (Nat.le_refl m)
theorem lt_of_bits {m x:Nat} (h:∀ k,x.testBit k=true→k < m):x < 2 ^ m:=by
  apply Nat.lt_pow_two_of_testBit
  intro i hi
  cases e:x.testBit i with
  | false=>rfl
  | true=>have:=h i e; omega
theorem behN_lt {m a b:Nat} (hb:b < 2 ^ m):behN m a b < 2 ^ m:=lt_of_bits fun k h=>((behN_bit hb).mp h).1
theorem bit_lt {m x k:Nat} (h:x < 2 ^ m) (b:x.testBit k=true):k < m:=by
  by_cases c:k < m
  · exact c
  · rw [Nat.testBit_lt_two_pow (Nat.lt_of_lt_of_le h (Nat.pow_le_pow_right (by omega) (by omega)))] at b; cases b
theorem eq_of_bits {x y:Nat} (h:∀ k,x.testBit k=true ↔ y.testBit k=true):x=y:=Nat.eq_of_testBit_eq fun k=>Bool.eq_iff_iff.mpr (h k)
theorem behN_comm {m a b:Nat} (ha:a < 2 ^ m) (hb:b < 2 ^ m):behN m a b=behN m b a:=eq_of_bits fun k=>by
  rw [behN_bit hb,behN_bit ha]
  constructor <;> rintro ⟨h,i,j,h1,h2,h3,h4,h5⟩ <;> exact ⟨h,j,i,h2,h1,h4,h3,by rw [Nat.add_comm]; exact h5⟩
theorem behN_assoc {m a b c:Nat} (hb:b < 2 ^ m) (hc:c < 2 ^ m):behN m (behN m a b) c=behN m a (behN m b c):=eq_of_bits fun k=>by
  rw [behN_bit hc,behN_bit (behN_lt hc)]
  constructor
  · rintro ⟨h,i,j,h1,h2,h3,h4,h5⟩
    obtain ⟨_,p,q,g1,g2,g3,g4,g5⟩:=(behN_bit hb).mp h3
    refine ⟨h,p,(q + j) % m,g1,Nat.mod_lt _ (by omega),g3,(behN_bit hc).mpr ⟨Nat.mod_lt _ (by omega),q,j,g2,h2,g4,h4,rfl⟩,?_⟩
    rw [← h5,← g5,Nat.add_mod_mod,Nat.mod_add_mod,Nat.add_assoc]
  · rintro ⟨h,i,j,h1,h2,h3,h4,h5⟩
    obtain ⟨_,p,q,g1,g2,g3,g4,g5⟩:=(behN_bit hc).mp h4
    refine ⟨h,(i + p) % m,q,Nat.mod_lt _ (by omega),g2,(behN_bit hb).mpr ⟨Nat.mod_lt _ (by omega),i,p,h1,g1,h3,g3,rfl⟩,g4,?_⟩
    rw [← h5,← g5,Nat.add_mod_mod,Nat.mod_add_mod,Nat.add_assoc]
theorem behN_or {m a b c:Nat} (hb:b < 2 ^ m) (hc:c < 2 ^ m):behN m a (b ||| c)=behN m a b ||| behN m a c:=eq_of_bits fun k=>by
  rw [behN_bit (Nat.or_lt_two_pow hb hc),Nat.testBit_or,Bool.or_eq_true,behN_bit hb,behN_bit hc]
  simp only [Nat.testBit_or,Bool.or_eq_true]
  constructor
  · rintro ⟨h,i,j,h1,h2,h3,h4 | h4,h5⟩
    · exact .inl ⟨h,i,j,h1,h2,h3,h4,h5⟩
    · exact .inr ⟨h,i,j,h1,h2,h3,h4,h5⟩
  · rintro (⟨h,i,j,h1,h2,h3,h4,h5⟩ | ⟨h,i,j,h1,h2,h3,h4,h5⟩)
    · exact ⟨h,i,j,h1,h2,h3,.inl h4,h5⟩
    · exact ⟨h,i,j,h1,h2,h3,.inr h4,h5⟩
theorem one_bit {k:Nat}:(1:Nat).testBit k=true ↔ k=0:=by
  rw [show (1:Nat)=2 ^ 0 from rfl,Nat.testBit_two_pow]
  simp; omega
theorem one_lt {m:Nat} (hm:1≤m):1 < 2 ^ m:=Nat.one_lt_two_pow (by omega)
theorem behN_one {m a:Nat} (hm:1≤m) (ha:a < 2 ^ m):behN m 1 a=a:=eq_of_bits fun k=>by
  rw [behN_bit ha]
  constructor
  · rintro ⟨h,i,j,h1,h2,h3,h4,h5⟩
    rw [one_bit] at h3; subst h3
    rw [Nat.zero_add,Nat.mod_eq_of_lt h2] at h5; subst h5; exact h4
  · intro h
    have:=bit_lt ha h
    exact ⟨this,0,k,by omega,this,one_bit.mpr rfl,h,by rw [Nat.zero_add,Nat.mod_eq_of_lt this]⟩
theorem behN_zero {m a:Nat} (ha:a < 2 ^ m):behN m 0 a=0:=eq_of_bits fun k=>by
  rw [behN_bit ha]; simp
def rndTo (m a:Nat):Nat→Nat
  | 0=>1
  | k + 1=>rndTo m a k ||| behN m (rndTo m a k) a
theorem rndTo_lt {m a:Nat} (hm:1≤m) (ha:a < 2 ^ m):∀ k,rndTo m a k < 2 ^ m
  | 0=>one_lt hm
  | k + 1=>Nat.or_lt_two_pow (rndTo_lt hm ha k) (behN_lt ha)
theorem rndTo_stays {m a k : Nat} (h : rndTo m a (k + 1) = rndTo m a k) : ∀ j, k ≤ j → rndTo m a j = rndTo m a k := fun j hj => by
  induction j with
  | zero => obtain rfl : k = 0 := by omega
            rfl
  | succ j ih =>
    by_cases c : k ≤ j
    · have e := ih c
      show rndTo m a j ||| behN m (rndTo m a j) a = _
      rw [e]; exact h
    · obtain rfl : k = j + 1 := by omega
      rfl
def cnt (x:Nat):Nat→Nat
  | 0=>0
  | n + 1=>cnt x n + (if x.testBit n then 1 else 0)
theorem cnt_le (x:Nat):∀ n,cnt x n≤n
  | 0=>Nat.le_refl _
  | n + 1=>by have:=cnt_le x n; unfold cnt; split <;> omega
theorem cnt_mono {x y:Nat} (h:∀ k,x.testBit k=true→y.testBit k=true):∀ n,cnt x n≤cnt y n
  | 0=>Nat.le_refl _
  | n + 1=>by
    have ih:=cnt_mono h n
    unfold cnt
    split
    · rename_i c; rw [if_pos (h n c)]; omega
    · split <;> omega
theorem cnt_lt {x y:Nat} (h:∀ k,x.testBit k=true→y.testBit k=true) (k:Nat) (h1:x.testBit k=false) (h2:y.testBit k=true):∀ n,k < n→cnt x n < cnt y n
  | 0,z=>by omega
  | n + 1,z=>by
    unfold cnt
    by_cases e:k=n
    · subst e
      have:=cnt_mono h k
      rw [h1,h2]; simp; omega
    · have:=cnt_lt h k h1 h2 n (by omega)
      split
      · rename_i c; rw [if_pos (h n c)]; omega
      · split <;> omega
theorem rndTo_grows {m a:Nat} (hm:1≤m) (ha:a < 2 ^ m):∀ k,(∀ j,j < k→rndTo m a (j + 1)≠rndTo m a j)→k + 1≤cnt (rndTo m a k) m
  | 0,_=>by
    obtain ⟨n,rfl⟩:∃ n,m=n + 1:=⟨m - 1,by omega⟩
    have:∀ n,1≤cnt 1 (n + 1):=fun n=>by
      induction n with
      | zero=>simp [cnt]
      | succ n ih=>rw [cnt]; omega
    exact this n
  | k + 1,h=>by
    have ih:=rndTo_grows hm ha k fun j hj=>h j (by omega)
    have ne:=h k (by omega)
    have sub:∀ i,(rndTo m a k).testBit i=true→(rndTo m a (k + 1)).testBit i=true:=fun i z=>by
      show (rndTo m a k ||| behN m (rndTo m a k) a).testBit i=true
      rw [Nat.testBit_or,z]; rfl
    obtain ⟨i,hi⟩:∃ i,(rndTo m a k).testBit i=false∧(rndTo m a (k + 1)).testBit i=true:=by
      refine Classical.byContradiction fun n=>ne (eq_of_bits fun i=>⟨fun z=>?_,sub i⟩)
      refine Classical.byContradiction fun y=>n ⟨i,by cases e:(rndTo m a k).testBit i <;> simp_all,z⟩
    have:=cnt_lt sub i hi.1 hi.2 m (bit_lt (rndTo_lt hm ha (k + 1)) hi.2)
    omega
theorem rndTo_fix {m a:Nat} (hm:1≤m) (ha:a < 2 ^ m):∀ j,m≤j→rndTo m a j=rndTo m a m:=by
  have:∃ k,k < m∧rndTo m a (k + 1)=rndTo m a k:=by
    refine Classical.byContradiction fun n=>?_
    have:=rndTo_grows hm ha m fun j hj e=>n ⟨j,hj,e⟩
    have:=cnt_le (rndTo m a m) m
    omega
  obtain ⟨k,hk,e⟩:=this
  intro j hj
  rw [rndTo_stays e j (by omega),rndTo_stays e m (by omega)]
theorem rndTo_done {m a k:Nat} (hm:1≤m) (ha:a < 2 ^ m) (h:rndTo m a (k + 1)=rndTo m a k):rndTo m a k=rndTo m a m:=by
  by_cases c:k≤m
  · exact (rndTo_stays h m c).symm
  · exact rndTo_fix hm ha k (by omega)
abbrev Res (m:Nat):={n:Nat // n < 2 ^ m}
theorem or_self (a:Nat):a ||| a=a:=Nat.or_self a
def ksRests (m:Nat) (hm:1≤m):KSR (Res m) where
  zero:=⟨0,Nat.two_pow_pos m⟩
  one:=⟨1,one_lt hm⟩
  add:=fun a b=>⟨a.1 ||| b.1,Nat.or_lt_two_pow a.2 b.2⟩
  mul:=fun a b=>⟨behN m a.1 b.1,behN_lt b.2⟩
  star:=fun a=>some ⟨rndTo m a.1 m,rndTo_lt hm a.2 m⟩
  add_assoc:=fun a b c=>Subtype.ext (Nat.or_assoc _ _ _)
  add_comm:=fun a b=>Subtype.ext (Nat.or_comm _ _)
  zero_add:=fun a=>Subtype.ext (Nat.zero_or _)
  mul_assoc:=fun a b c=>Subtype.ext (behN_assoc b.2 c.2)
  mul_comm:=fun a b=>Subtype.ext (behN_comm a.2 b.2)
  one_mul:=fun a=>Subtype.ext (behN_one hm a.2)
  zero_mul:=fun a=>Subtype.ext (behN_zero a.2)
  mul_add:=fun a b c=>Subtype.ext (behN_or b.2 c.2)
  anti:=fun a b c d h1 h2=>Subtype.ext (anti_idem (add:=fun a b:Nat=>a ||| b) Nat.or_assoc Nat.or_comm Nat.or_self a.1 b.1 c.1 d.1 (congrArg Subtype.val h1) (congrArg Subtype.val h2))
  star_eq:=fun a s h=>by
    cases h
    refine Subtype.ext ?_
    show rndTo m a.1 m=1 ||| behN m a.1 (rndTo m a.1 m)
    have key:∀ k,rndTo m a.1 (k + 1)=1 ||| behN m a.1 (rndTo m a.1 k):=fun k=>by
      induction k with
      | zero=>show 1 ||| behN m 1 a.1=1 ||| behN m a.1 1; rw [behN_comm a.2 (one_lt hm)]
      | succ k ih =>
        have l:=rndTo_lt hm a.2 k
        have e:rndTo m a.1 (k + 2)=rndTo m a.1 (k + 1) ||| behN m (rndTo m a.1 (k + 1)) a.1:=rfl
        have e1:rndTo m a.1 (k + 1)=rndTo m a.1 k ||| behN m (rndTo m a.1 k) a.1:=rfl
        have l1:=rndTo_lt hm a.2 (k + 1)
        rw [e,behN_comm l1 a.2]
        refine eq_of_bits fun i=>?_
        have s1:(rndTo m a.1 (k + 1)).testBit i=true→(1 ||| behN m a.1 (rndTo m a.1 (k + 1))).testBit i=true:=fun z=>by
          rw [ih,Nat.testBit_or,Bool.or_eq_true] at z
          rw [Nat.testBit_or,Bool.or_eq_true]
          rcases z with z | z
          · exact .inl z
          · refine .inr ?_
            rw [e1,behN_or l (behN_lt a.2),Nat.testBit_or,z]; rfl
        have s2:(1:Nat).testBit i=true→(rndTo m a.1 (k + 1)).testBit i=true:=fun z=>by rw [ih,Nat.testBit_or,z]; rfl
        simp only [Nat.testBit_or,Bool.or_eq_true] at s1 ⊢
        constructor
        · rintro (z | z)
          · exact s1 z
          · exact .inr z
        · rintro (z | z)
          · exact .inl (s2 z)
          · exact .inr z
    rw [← key m]
    exact (rndTo_fix hm a.2 (m + 1) (by omega)).symm
  star_ind:=fun a s b x c h e=>by
    cases h
    refine ⟨x,Subtype.ext ?_⟩
    have e:b.1 ||| behN m a.1 x.1 ||| c.1=x.1:=congrArg Subtype.val e
    show behN m (rndTo m a.1 m) b.1 ||| x.1=x.1
    have hb:∀ i,b.1.testBit i=true→x.1.testBit i=true:=fun i z=>by rw [← e,Nat.testBit_or,Nat.testBit_or,z]; rfl
    have hax:∀ i,(behN m a.1 x.1).testBit i=true→x.1.testBit i=true:=fun i z=>by rw [← e,Nat.testBit_or,Nat.testBit_or,z]; simp
    have mono:∀ {p q r:Nat},q < 2 ^ m→r < 2 ^ m→(∀ i,q.testBit i=true→r.testBit i=true)→∀ i,(behN m p q).testBit i=true→(behN m p r).testBit i=true:=fun hq hr z i y=>by
      rw [behN_bit hq] at y
      obtain ⟨h,i,j,h1,h2,h3,h4,h5⟩:=y
      exact (behN_bit hr).mpr ⟨h,i,j,h1,h2,h3,z j h4,h5⟩
    have key:∀ k i,(behN m (rndTo m a.1 k) b.1).testBit i=true→x.1.testBit i=true:=fun k=>by
      induction k with
      | zero=>intro i z; rw [show rndTo m a.1 0=1 from rfl,behN_one hm b.2] at z; exact hb i z
      | succ k ih =>
        intro i z
        have l:=rndTo_lt hm a.2 k
        rw [show rndTo m a.1 (k + 1)=rndTo m a.1 k ||| behN m (rndTo m a.1 k) a.1 from rfl,behN_comm (Nat.or_lt_two_pow l (behN_lt a.2)) b.2,behN_or l (behN_lt a.2),Nat.testBit_or,Bool.or_eq_true] at z
        rcases z with z | z
        · rw [behN_comm b.2 l] at z; exact ih i z
        · rw [behN_comm l a.2,behN_comm b.2 (behN_lt l),behN_assoc l b.2] at z
          exact hax i (mono (behN_lt b.2) x.2 (fun i y=>ih i y) i z)
    refine eq_of_bits fun i=>?_
    rw [Nat.testBit_or,Bool.or_eq_true]
    exact ⟨fun z=>z.elim (key m i) id,.inr⟩
end Ws
namespace Ws
def ofR (q:Rat):Wd:=.pair q.num (q.den:Int)
theorem den_pos (q:Rat):(0:Int) < q.den:=by have:=q.den_nz; omega
theorem shareW_ofR {t b:Int} (h:0 < b):shareW t b=ofR (Rat.divInt t b):=by
  unfold shareW ofR
  rw [Rat.num_divInt,Rat.den_divInt,if_neg (by omega),Int.sign_eq_one_of_pos h,Int.one_mul,Int.gcd_comm b t]
  congr 1
  rw [Int.natCast_ediv,Int.natAbs_of_nonneg (by omega)]
theorem ofR_inj {p q:Rat} (h:ofR p=ofR q):p=q:=by
  unfold ofR at h
  simp only [Wd.pair.injEq] at h
  exact Rat.ext h.1 (by omega)
theorem ofR_gcd (q:Rat):Int.gcd q.num (q.den:Int)=1:=q.reduced
theorem ofR_share (q:Rat):isShare (ofR q)=true:=by
  show (decide ((0:Int) < q.den) && decide (Int.gcd q.num (q.den:Int)=1))=true
  rw [ofR_gcd,decide_eq_true (den_pos q)]; rfl
theorem share_is {a b:Int} (h:isShare (.pair a b)=true):∃ q:Rat,q.num=a∧(q.den:Int)=b:=by
  simp only [isShare,Bool.and_eq_true,decide_eq_true_eq] at h
  refine ⟨⟨a,b.toNat,by omega,?_⟩,rfl,by show ((b.toNat:Nat):Int)=b; omega⟩
  have:b.toNat=b.natAbs:=by omega
  rw [this]; exact h.2
theorem add_shareW (p q:Rat):shareW (p.num * q.den + q.num * p.den) (p.den * q.den)=ofR (p + q):=by
  rw [shareW_ofR (Int.mul_pos (den_pos p) (den_pos q)),← Rat.divInt_add_divInt _ _ (Int.ne_of_gt (den_pos p)) (Int.ne_of_gt (den_pos q)),Rat.num_divInt_den,Rat.num_divInt_den]
theorem mul_cross (p q:Rat):Wd.pair (p.num / (Int.gcd p.num q.den:Int) * (q.num / (Int.gcd q.num p.den:Int))) ((q.den:Int) / (Int.gcd p.num q.den:Int) * ((p.den:Int) / (Int.gcd q.num p.den:Int)))=ofR (p * q):=by
  unfold ofR
  have e1:(p * q).num=p.num / (Int.gcd p.num q.den:Int) * (q.num / (Int.gcd q.num p.den:Int)):=by
    show (Rat.mul p q).num=_
    rw [Rat.mul]
    show p.num.divExact _ _ * q.num.divExact _ _=_
    rw [Int.divExact_eq_ediv,Int.divExact_eq_ediv]; rfl
  have e2:((p * q).den:Int)=(q.den:Int) / (Int.gcd p.num q.den:Int) * ((p.den:Int) / (Int.gcd q.num p.den:Int)):=by
    show ((Rat.mul p q).den:Int)=_
    rw [Rat.mul]
    show ((p.den.divExact _ _ * q.den.divExact _ _:Nat):Int)=_
    rw [Nat.divExact_eq_div,Nat.divExact_eq_div,Int.natCast_mul,Int.mul_comm]
    simp [Int.gcd]
  rw [e1,e2]
theorem mul_shareW (p q:Rat):shareW (p.num * q.num) (p.den * q.den)=ofR (p * q):=by
  rw [shareW_ofR (Int.mul_pos (den_pos p) (den_pos q)),← Rat.divInt_mul_divInt,Rat.num_divInt_den,Rat.num_divInt_den]
theorem lack_divInt (p:Rat):Rat.divInt (p.den - p.num) p.den=1 - p:=by
  have z:(p.den:Rat)≠0:=by intro z; have:=p.den_nz; exact this (by exact_mod_cast z)
  have e:p=(p.num:Rat) / ((p.den:Int):Rat):=by
    conv=>lhs; rw [← Rat.num_divInt_den p]
    rw [Rat.divInt_eq_div]
  have e1:p * (p.den:Rat)=(p.num:Rat):=by
    rw [Rat.intCast_natCast] at e
    rw [Rat.div_def] at e
    have:=congrArg (fun x=>x * (p.den:Rat)) e
    refine this.trans ?_
    show (p.num:Rat) * (p.den:Rat)⁻¹ * (p.den:Rat)=p.num
    rw [Rat.mul_assoc,Rat.inv_mul_cancel _ z,Rat.mul_one]
  rw [Rat.divInt_eq_div,Rat.intCast_sub,Rat.intCast_natCast,← e1,Rat.div_def]
  generalize (p.den:Rat)=d at z
  grind
theorem lack_shareW (p:Rat):shareW (p.den - p.num) p.den=ofR (1 - p):=by
  rw [shareW_ofR (den_pos p),lack_divInt]
theorem inv_shareW {p:Rat} (h:p.num < p.den):shareW p.den (p.den - p.num)=ofR (1 - p)⁻¹:=by
  rw [shareW_ofR (by omega),← lack_divInt,Rat.inv_divInt]
theorem lt_one {q:Rat}:q.num < q.den ↔ q < 1:=by
  rw [Rat.lt_iff]
  simp
theorem inv_turn {q:Rat} (h:0 < q.num):ofR q⁻¹=.pair q.den q.num:=by
  unfold ofR
  rw [Rat.num_inv,Rat.den_inv,if_neg (by omega),Int.sign_eq_one_of_pos h,Int.one_mul]
  congr 1
  omega
theorem num_pos {q:Rat}:0 < q.num ↔ 0 < q:=by
  rw [Rat.lt_iff]
  simp
theorem lt_cross (p q:Rat):p.num * q.den < q.num * p.den ↔ p < q:=(Rat.lt_iff p q).symm
theorem le_one {q:Rat}:q.num≤q.den ↔ q≤1:=by
  rw [Rat.le_iff]
  simp
def Car:Kd→Type
  | .fewest=>Option Nat
  | .widest=>Wid
  | .counted=>Option Nat
  | .likeliest=>Lik
  | .chances=>Cha
  | .musts=>Option Nat
  | .rests m=>Res m
def enc:(kd:Kd)→Car kd→Wd
  | .fewest,none=>.non
  | .fewest,some n=>.int (n:Int)
  | .widest,n=>.int (n.1:Int)
  | .counted,none=>.int (-1)
  | .counted,some n=>.int (n:Int)
  | .likeliest,q=>ofR q.1
  | .chances,q=>ofR q.1
  | .musts,none=>.non
  | .musts,some n=>.int (n:Int)
  | .rests _,n=>.int (n.1:Int)
def ks:(kd:Kd)→KdOk kd→KSR (Car kd)
  | .fewest,_=>ksFewest
  | .widest,_=>ksWidest
  | .counted,_=>ksCounted
  | .likeliest,_=>ksLikeliest
  | .chances,_=>ksChances
  | .musts,_=>ksMusts
  | .rests m,h=>ksRests m h.1
theorem enc_inj:∀ {kd:Kd} {x y:Car kd},enc kd x=enc kd y→x=y
  | .fewest,none,none,_=>rfl
  | .fewest,some _,some _,h=>by
    simp only [enc,Wd.int.injEq] at h; exact congrArg some (by omega)
  | .fewest,none,some _,h=>by cases h
  | .fewest,some _,none,h=>by cases h
  | .widest,x,y,h=>by
    simp only [enc,Wd.int.injEq] at h; exact Subtype.ext (by omega)
  | .counted,none,none,_=>rfl
  | .counted,some _,some _,h=>by
    simp only [enc,Wd.int.injEq] at h; exact congrArg some (by omega)
  | .counted,none,some _,h=>by simp only [enc,Wd.int.injEq] at h; omega
  | .counted,some _,none,h=>by simp only [enc,Wd.int.injEq] at h; omega
  | .likeliest,x,y,h=>Subtype.ext (ofR_inj h)
  | .chances,x,y,h=>Subtype.ext (ofR_inj h)
  | .musts,none,none,_=>rfl
  | .musts,some _,some _,h=>by
    simp only [enc,Wd.int.injEq] at h; exact congrArg some (by omega)
  | .musts,none,some _,h=>by cases h
  | .musts,some _,none,h=>by cases h
  | .rests _,x,y,h=>by
    simp only [enc,Wd.int.injEq] at h; exact Subtype.ext (by omega)
theorem pow_cast (m:Nat):((2 ^ m:Nat):Int)=2 ^ m:=by
  induction m with
  | zero=>rfl
  | succ m ih=>rw [Nat.pow_succ,Int.pow_succ,← ih]; simp
theorem isWorth_enc:∀ {kd:Kd} (x:Car kd),isWorth kd (enc kd x)=true
  | .fewest,none=>by simp [enc,isWorth]
  | .fewest,some _=>by simp [enc,isWorth,isFrom]
  | .widest,x=>by have:=x.2; simp [enc,isWorth]; omega
  | .counted,none=>by simp [enc,isWorth,isFrom]
  | .counted,some _=>by simp only [enc,isWorth,isFrom,decide_eq_true_eq]; omega
  | .likeliest,x=>by
    have h:=x.2
    show (isShare (ofR x.1) && (decide (0≤x.1.num) && decide (x.1.num≤x.1.den)))=true
    rw [ofR_share,decide_eq_true (Rat.num_nonneg.mpr h.1),decide_eq_true (le_one.mpr h.2)]; rfl
  | .chances,x=>by
    have h:=x.2
    show (isShare (ofR x.1) && decide (0≤x.1.num))=true
    rw [ofR_share,decide_eq_true (Rat.num_nonneg.mpr h)]; rfl
  | .musts,none=>by simp [enc,isWorth]
  | .musts,some _=>by simp [enc,isWorth,isFrom]
  | .rests m,x=>by
    have h:=x.2
    simp only [enc,isWorth,Bool.and_eq_true,decide_eq_true_eq]
    have:=pow_cast m
    exact ⟨by omega,by rw [← this]; exact Int.ofNat_lt.mpr h⟩
theorem enc_surj:∀ {kd:Kd} {w:Wd},isWorth kd w=true→∃ x:Car kd,w=enc kd x
  | .fewest,.non,_=>⟨none,rfl⟩
  | .fewest,.int i,h=>by
    simp [isWorth,isFrom] at h
    exact ⟨some i.toNat,by show Wd.int i=Wd.int ((i.toNat:Nat):Int); congr 1; omega⟩
  | .fewest,.pair _ _,h=>by simp [isWorth,isFrom] at h
  | .widest,.int i,h=>by
    simp [isWorth] at h
    exact ⟨⟨i.toNat,by omega⟩,by show Wd.int i=Wd.int ((i.toNat:Nat):Int); congr 1; omega⟩
  | .counted,.int i,h=>by
    simp [isWorth,isFrom] at h
    by_cases e:i=-1
    · exact ⟨none,by rw [e]; rfl⟩
    · exact ⟨some i.toNat,by show Wd.int i=Wd.int ((i.toNat:Nat):Int); congr 1; omega⟩
  | .likeliest,.pair a b,h=>by
    simp only [isWorth,Bool.and_eq_true,decide_eq_true_eq] at h
    obtain ⟨q,rfl,rfl⟩:=share_is h.1
    exact ⟨⟨q,Rat.num_nonneg.mp h.2.1,le_one.mp h.2.2⟩,rfl⟩
  | .chances,.pair a b,h=>by
    simp only [isWorth,Bool.and_eq_true,decide_eq_true_eq] at h
    obtain ⟨q,rfl,rfl⟩:=share_is h.1
    exact ⟨⟨q,Rat.num_nonneg.mp h.2⟩,rfl⟩
  | .musts,.non,_=>⟨none,rfl⟩
  | .musts,.int i,h=>by
    simp [isWorth,isFrom] at h
    exact ⟨some i.toNat,by show Wd.int i=Wd.int ((i.toNat:Nat):Int); congr 1; omega⟩
  | .musts,.pair _ _,h=>by simp [isWorth,isFrom] at h
  | .rests m,.int i,h=>by
    simp only [isWorth,Bool.and_eq_true,decide_eq_true_eq] at h
    have:=pow_cast m
    exact ⟨⟨i.toNat,by rw [← this] at h; omega⟩,by show Wd.int i=Wd.int ((i.toNat:Nat):Int); congr 1; omega⟩
  | .widest,.non,h=>by simp [isWorth] at h
  | .widest,.pair _ _,h=>by simp [isWorth] at h
  | .counted,.non,h=>by simp [isWorth,isFrom] at h
  | .counted,.pair _ _,h=>by simp [isWorth,isFrom] at h
  | .likeliest,.non,h=>by simp [isWorth] at h
  | .likeliest,.int _,h=>by simp [isWorth] at h
  | .chances,.non,h=>by simp [isWorth] at h
  | .chances,.int _,h=>by simp [isWorth] at h
  | .rests _,.non,h=>by simp [isWorth] at h
  | .rests _,.pair _ _,h=>by simp [isWorth] at h
section
variable {S : Type} (R : KSR S)
theorem KSR.add_zero (a:S):R.add a R.zero=a:=by rw [R.add_comm]; exact R.zero_add a
theorem KSR.mul_one (a:S):R.mul a R.one=a:=by rw [R.mul_comm]; exact R.one_mul a
theorem KSR.mul_zero (a:S):R.mul a R.zero=R.zero:=by rw [R.mul_comm]; exact R.zero_mul a
theorem KSR.add_mul (a b c:S):R.mul (R.add a b) c=R.add (R.mul a c) (R.mul b c):=by rw [R.mul_comm,R.mul_add,R.mul_comm c a,R.mul_comm c b]
def KSR.le (a b:S):Prop:=∃ c,R.add a c=b
theorem KSR.zero_le (a:S):R.le R.zero a:=⟨a,R.zero_add a⟩
end
end Ws
namespace Ws
open PySem
open Builtin.Int (intBits)
def Sm (B:Nat):Wd→Prop
  | .non=>True
  | .int i=>intBits i≤B
  | .pair a b=>intBits a≤B∧intBits b≤B
instance decSm (B:Nat):(w:Wd)→Decidable (Sm B w)
  | .non=>.isTrue trivial
  | .int i=>inferInstanceAs (Decidable (intBits i≤B))
  | .pair a b=>inferInstanceAs (Decidable (intBits a≤B∧intBits b≤B))
theorem Sm.mono {B C:Nat} (h:B≤C):∀ {w:Wd},Sm B w→Sm C w
  | .non,_=>trivial
  | .int _,z=>Nat.le_trans z h
  | .pair _ _,z=>⟨Nat.le_trans z.1 h,Nat.le_trans z.2 h⟩
def Big:Nat:=16000000
theorem big_mul {i j:Int} (hi:intBits i≤Big) (hj:intBits j≤Big):IntMulOk i j:=IntMulOk.of_le hi hj (by decide)
theorem bits_nat {n B:Nat} (h:n < 2 ^ B):intBits (n:Int)≤B:=intBits_le_iff.mpr (by simpa using h)
theorem bits_le {i:Int} {B:Nat} (h:i.natAbs < 2 ^ B):intBits i≤B:=intBits_le_iff.mpr h
theorem bitAnd_nat (a b:Nat):Builtin.bitAnd (a:Int) (b:Int)=((a &&& b:Nat):Int):=by
  unfold Builtin.bitAnd
  rw [decide_eq_true (Int.natCast_nonneg a),decide_eq_true (Int.natCast_nonneg b)]
  rfl
theorem bitOr_nat (a b:Nat):Builtin.bitOr (a:Int) (b:Int)=((a ||| b:Nat):Int):=by
  unfold Builtin.bitOr Builtin.bitAnd Builtin.bitNot
  rw [decide_eq_false (show ¬ (0:Int)≤-(a:Int) - 1 by omega),decide_eq_false (show ¬ (0:Int)≤-(b:Int) - 1 by omega)]
  dsimp only
  rw [show (-(-(a:Int) - 1) - 1).toNat=a by omega,show (-(-(b:Int) - 1) - 1).toNat=b by omega]
  omega
theorem shl_nat (a k:Nat):(a:Int) * 2 ^ ((k:Int)).toNat=((a <<< k:Nat):Int):=by
  rw [Nat.shiftLeft_eq,Int.natCast_mul,pow_cast,Int.toNat_natCast]
theorem shr_nat (a k:Nat):(a:Int) / 2 ^ ((k:Int)).toNat=((a >>> k:Nat):Int):=by
  rw [Nat.shiftRight_eq_div_pow,Int.natCast_ediv,pow_cast,Int.toNat_natCast]
theorem mask_nat (m:Nat):(1:Int) * 2 ^ ((m:Int)).toNat - 1=((2 ^ m - 1:Nat):Int):=by
  have:0 < 2 ^ m:=Nat.two_pow_pos m
  rw [Int.one_mul,Int.toNat_natCast,← pow_cast]; omega
theorem bit_test (a k:Nat):(Builtin.bitAnd ((a >>> k:Nat):Int) 1 != 0)=a.testBit k:=by
  rw [show (1:Int)=((1:Nat):Int) from rfl,bitAnd_nat]
  unfold Nat.testBit
  rw [Nat.and_comm]
  generalize 1 &&& a >>> k=z
  cases z with
  | zero=>rfl
  | succ z=>simp; omega
def kno:Kd→Int
  | .fewest=>0 | .widest=>1 | .counted=>2 | .likeliest=>3 | .chances=>4 | .musts=>5 | .rests _=>6
theorem kno_kdOf {which m:Int} (h0:0≤which) (h7:which < 7):kno (kdOf which m)=which:=by
  have:which=0∨which=1∨which=2∨which=3∨which=4∨which=5∨which=6:=by omega
  rcases this with rfl | rfl | rfl | rfl | rfl | rfl | rfl <;> rfl
theorem noneW_kno (kd:Kd) (ok:KdOk kd):noneW (kno kd)=enc kd (ks kd ok).zero:=by cases kd <;> rfl
theorem restW_kno (kd:Kd) (ok:KdOk kd):restW (kno kd)=enc kd (ks kd ok).one:=by cases kd <;> rfl
theorem bit_one (a k:Nat):Builtin.bitAnd ((a >>> k:Nat):Int) 1=if a.testBit k then 1 else 0:=by
  rw [show (1:Int)=((1:Nat):Int) from rfl,bitAnd_nat,Nat.testBit_eq_decide_div_mod_eq,Nat.and_one_is_mod,Nat.shiftRight_eq_div_pow]
  have:a / 2 ^ k % 2=0∨a / 2 ^ k % 2=1:=by omega
  rcases this with h | h <;> simp [h]
end Ws
namespace Ws
open PySem
open Builtin.Int (intBits)
theorem num_le {t b:Int} (h:0 < b):(Rat.divInt t b).num.natAbs≤t.natAbs:=by
  rw [Rat.num_divInt,Int.sign_eq_one_of_pos h,Int.one_mul]
  exact Int.natAbs_ediv_le_natAbs _ _
theorem den_le {t b:Int} (h:0 < b):(Rat.divInt t b).den≤b.natAbs:=by
  rw [Rat.den_divInt,if_neg (by omega)]
  exact Nat.div_le_self _ _
theorem sm_div {t b:Int} {B:Nat} (h:0 < b) (h1:intBits t≤B) (h2:intBits b≤B):Sm B (ofR (Rat.divInt t b)) :=
  ⟨intBits_le_of_natAbs (num_le h) h1,intBits_le_of_natAbs (by have:=den_le (t:=t) h; omega) h2⟩
theorem sm_addR {p q:Rat} {B C:Nat} (h1:Sm B (ofR p)) (h2:Sm C (ofR q)):Sm (B + C + 1) (ofR (p + q)):=by
  have e:p + q=Rat.divInt (p.num * q.den + q.num * p.den) (p.den * q.den):=by
    rw [← Rat.divInt_add_divInt _ _ (Int.ne_of_gt (den_pos p)) (Int.ne_of_gt (den_pos q)),Rat.num_divInt_den,Rat.num_divInt_den]
  rw [e]
  refine sm_div (Int.mul_pos (den_pos p) (den_pos q)) ?_ ?_
  · have:=intBits_add_le (intBits_mul_le h1.1 h2.2) (intBits_mul_le h2.1 h1.2)
    omega
  · have:=intBits_mul_le h1.2 h2.2
    omega
theorem sm_mulR {p q:Rat} {B C:Nat} (h1:Sm B (ofR p)) (h2:Sm C (ofR q)):Sm (B + C) (ofR (p * q)):=by
  have e:p * q=Rat.divInt (p.num * q.num) (p.den * q.den):=by
    rw [← Rat.divInt_mul_divInt,Rat.num_divInt_den,Rat.num_divInt_den]
  rw [e]
  exact sm_div (Int.mul_pos (den_pos p) (den_pos q)) (intBits_mul_le h1.1 h2.1) (intBits_mul_le h1.2 h2.2)
theorem sm_max {p q:Rat} {B C:Nat} (h1:Sm B (ofR p)) (h2:Sm C (ofR q)):Sm (B + C) (ofR (rmax p q)):=by
  unfold rmax
  split
  · exact h2.mono (by omega)
  · exact h1.mono (by omega)
theorem sm_nat {n m B:Nat} (h:n≤m) (hm:Sm B (.int (m:Int))):Sm B (.int (n:Int)):=intBits_le_of_natAbs (by omega) hm
theorem sm_lt {n B:Nat} (h:n < 2 ^ B):Sm B (.int (n:Int)):=bits_nat h
theorem lt_sm {n B:Nat} (h:Sm B (.int (n:Int))):n < 2 ^ B:=by have:=intBits_le_iff.mp h; simpa using this
theorem sm_add {kd:Kd} {ok:KdOk kd} {x y:Car kd} {B C:Nat} (h1:Sm B (enc kd x)) (h2:Sm C (enc kd y)):Sm (B + C + 1) (enc kd ((ks kd ok).add x y)):=by
  cases kd with
  | fewest =>
    rcases x with _ | i
    · cases y <;> exact h2.mono (by omega)
    · rcases y with _ | j
      · exact h1.mono (by omega)
      · exact (sm_nat (Nat.min_le_left i j) h1).mono (by omega)
  | widest =>
    by_cases c:x.1≤y.1
    · exact (sm_nat (show max x.1 y.1≤y.1 by omega) h2).mono (by omega)
    · exact (sm_nat (show max x.1 y.1≤x.1 by omega) h1).mono (by omega)
  | counted =>
    rcases x with _ | i
    · exact h1.mono (by omega)
    · rcases y with _ | j
      · exact h2.mono (by omega)
      · refine sm_lt ?_
        have:=lt_sm h1
        have:=lt_sm h2
        have e1:2 ^ B≤2 ^ (B + C):=Nat.pow_le_pow_right (by decide) (by omega)
        have e2:2 ^ C≤2 ^ (B + C):=Nat.pow_le_pow_right (by decide) (by omega)
        rw [Nat.pow_succ]; omega
  | likeliest=>exact (sm_max h1 h2).mono (by omega)
  | chances=>exact sm_addR h1 h2
  | musts =>
    rcases x with _ | i
    · cases y <;> exact h2.mono (by omega)
    · rcases y with _ | j
      · exact h1.mono (by omega)
      · exact (sm_nat Nat.and_le_left h1).mono (by omega)
  | rests m =>
    refine sm_lt ?_
    have l1:=lt_sm h1
    have l2:=lt_sm h2
    have e1:2 ^ B≤2 ^ (B + C + 1):=Nat.pow_le_pow_right (by decide) (by omega)
    have e2:2 ^ C≤2 ^ (B + C + 1):=Nat.pow_le_pow_right (by decide) (by omega)
    exact Nat.or_lt_two_pow (by omega) (by omega)
theorem sm_mul {kd:Kd} {ok:KdOk kd} {x y:Car kd} {B C:Nat} (h1:Sm B (enc kd x)) (h2:Sm C (enc kd y)):Sm (B + C + 12) (enc kd ((ks kd ok).mul x y)):=by
  cases kd with
  | fewest =>
    rcases x with _ | i
    · exact trivial
    · rcases y with _ | j
      · exact trivial
      · refine sm_lt ?_
        have:=lt_sm h1
        have:=lt_sm h2
        have e1:2 ^ B≤2 ^ (B + C):=Nat.pow_le_pow_right (by decide) (by omega)
        have e2:2 ^ C≤2 ^ (B + C):=Nat.pow_le_pow_right (by decide) (by omega)
        have e3:2 ^ (B + C + 1)≤2 ^ (B + C + 12):=Nat.pow_le_pow_right (by decide) (by omega)
        rw [Nat.pow_succ] at e3; omega
  | widest=>exact (sm_nat (show min x.1 y.1≤x.1 by omega) h1).mono (by omega)
  | counted =>
    rcases x with _ | i
    · rcases y with _ | _ | j
      · exact (show Sm 1 (.int (-1)) by decide).mono (by omega)
      · exact (show Sm 1 (.int 0) by decide).mono (by omega)
      · exact (show Sm 1 (.int (-1)) by decide).mono (by omega)
    · rcases y with _ | j
      · rcases i with _ | i
        · exact (show Sm 1 (.int 0) by decide).mono (by omega)
        · exact (show Sm 1 (.int (-1)) by decide).mono (by omega)
      · show Sm _ (enc .counted (oMul (some i) (some j)))
        rw [oMul_some]
        have:=intBits_mul_le h1 h2
        show intBits ((i * j:Nat):Int)≤_
        rw [Int.natCast_mul]; omega
  | likeliest=>exact (sm_mulR h1 h2).mono (by omega)
  | chances=>exact (sm_mulR h1 h2).mono (by omega)
  | musts =>
    rcases x with _ | i
    · exact trivial
    · rcases y with _ | j
      · exact trivial
      · refine sm_lt ?_
        have l1:=lt_sm h1
        have l2:=lt_sm h2
        have e1:2 ^ B≤2 ^ (B + C + 12):=Nat.pow_le_pow_right (by decide) (by omega)
        have e2:2 ^ C≤2 ^ (B + C + 12):=Nat.pow_le_pow_right (by decide) (by omega)
        exact Nat.or_lt_two_pow (by omega) (by omega)
  | rests m =>
    refine (sm_lt (B:=12) ?_).mono (by omega)
    exact Nat.lt_of_lt_of_le (behN_lt y.2) (Nat.pow_le_pow_right (by decide) ok.2)
theorem sm_star {kd:Kd} {ok:KdOk kd} {x s:Car kd} {B:Nat} (h:Sm B (enc kd x)) (e:(ks kd ok).star x=some s):Sm (B + 30) (enc kd s):=by
  cases kd with
  | fewest=>cases e; exact (show Sm 1 (.int 0) by decide).mono (by omega)
  | widest=>cases e; exact (show Sm 30 (.int 1000000000) by decide).mono (by omega)
  | counted =>
    cases e
    rcases x with _ | _ | n
    · exact (show Sm 1 (.int (-1)) by decide).mono (by omega)
    · exact (show Sm 1 (.int 1) by decide).mono (by omega)
    · exact (show Sm 1 (.int (-1)) by decide).mono (by omega)
  | likeliest=>cases e; exact (show Sm 1 (.pair 1 1) by decide).mono (by omega)
  | chances =>
    have e:(if h:x.1 < 1 then some (⟨(1 - x.1)⁻¹,rinv_nonneg h⟩:Cha) else none)=some s:=e
    split at e
    · rename_i lt
      cases e
      have l:=lt_one.mpr lt
      have n:=Rat.num_nonneg.mpr x.2
      have:Sm (B + 30) (ofR (Rat.divInt x.1.den (x.1.den - x.1.num))):=by
        refine (sm_div (B:=B) (by omega) h.2 (intBits_le_of_natAbs (y:=x.1.den) (by omega) h.2)).mono (by omega)
      rw [← Rat.inv_divInt,lack_divInt] at this
      exact this
    · cases e
  | musts=>cases e; exact (show Sm 1 (.int 0) by decide).mono (by omega)
  | rests m =>
    cases e
    refine (sm_lt (B:=12) ?_).mono (by omega)
    exact Nat.lt_of_lt_of_le (rndTo_lt ok.1 x.2 m) (Nat.pow_le_pow_right (by decide) ok.2)
theorem sm_one (kd:Kd) (ok:KdOk kd):Sm 30 (enc kd (ks kd ok).one):=by
  cases kd with
  | fewest=>exact (show Sm 30 (.int 0) by decide)
  | widest=>exact (show Sm 30 (.int 1000000000) by decide)
  | counted=>exact (show Sm 30 (.int 1) by decide)
  | likeliest=>exact (show Sm 30 (.pair 1 1) by decide)
  | chances=>exact (show Sm 30 (.pair 1 1) by decide)
  | musts=>exact (show Sm 30 (.int 0) by decide)
  | rests m=>exact (show Sm 1 (.int 1) by decide).mono (by decide)
theorem sm_zero (kd:Kd) (ok:KdOk kd):Sm 1 (enc kd (ks kd ok).zero):=by
  cases kd with
  | fewest=>exact (show Sm 1 (.non) by decide)
  | widest=>exact (show Sm 1 (.int 0) by decide)
  | counted=>exact (show Sm 1 (.int 0) by decide)
  | likeliest=>exact (show Sm 1 (.pair 0 1) by decide)
  | chances=>exact (show Sm 1 (.pair 0 1) by decide)
  | musts=>exact (show Sm 1 (.non) by decide)
  | rests m=>exact (show Sm 1 (.int 0) by decide)
theorem sm_shareW {t b:Int} {B:Nat} (h:0 < b) (h1:intBits t≤B) (h2:intBits b≤B):Sm B (shareW t b):=by
  rw [shareW_ofR h]; exact sm_div h h1 h2
theorem sm_worthW {which m cell:Int} (m1:1≤m) (m2:m≤12):Sm 110 (worthW which m cell):=by
  have p30:(10:Int) ^ 30 < 2 ^ 110:=by decide
  have b30:∀ c:Int,intBits (c % 10 ^ 30)≤110:=fun c=>bits_le (by
    have:=Int.emod_nonneg c (show (10:Int) ^ 30≠0 by decide)
    have:=Int.emod_lt_of_pos c (show (0:Int) < 10 ^ 30 by decide)
    have:(2:Nat) ^ 110=((2:Int) ^ 110).toNat:=by decide
    omega)
  have sm:∀ i:Int,-1≤i→i≤10 ^ 9→intBits i≤110:=fun i h1 h2=>bits_le (by
    have:(10:Int) ^ 9 < 2 ^ 110:=by decide
    have:(2:Nat) ^ 110=((2:Int) ^ 110).toNat:=by decide
    omega)
  unfold worthW
  split
  · unfold noneW; split
    · exact trivial
    · split <;> decide
  split
  · unfold restW; split
    · decide
    · split
      · decide
      · split <;> decide
  split
  · show intBits _≤_
    split
    · exact sm _ (by omega) (by omega)
    · exact b30 _
  split
  · show intBits _≤_
    split
    · exact sm _ (by omega) (by omega)
    · exact sm _ (by omega) (by omega)
  split
  · show intBits _≤_
    split
    · exact sm _ (by omega) (by omega)
    · exact b30 _
  split
  · have b1:0≤cell / 6 / 7 % 12:=Int.emod_nonneg _ (by decide)
    have b2:cell / 6 / 7 % 12 < 12:=Int.emod_lt_of_pos _ (by decide)
    have lt:=Int.emod_lt_of_pos (cell / 6) (show 0 < 1 + cell / 6 / 7 % 12 + 1 by omega)
    have nn:=Int.emod_nonneg (cell / 6) (show 1 + cell / 6 / 7 % 12 + 1≠0 by omega)
    exact sm_shareW (by omega) (sm _ (by omega) (by omega)) (sm _ (by omega) (by omega))
  split
  · exact sm_shareW (by omega) (sm _ (by omega) (by omega)) (sm _ (by omega) (by omega))
  split
  · show intBits _≤_
    split
    · exact sm _ (by omega) (by omega)
    · exact b30 _
  · have p:(0:Int) < 2 ^ m.toNat:=Int.pow_pos (by decide)
    have nn:=Int.emod_nonneg (cell / 6) (Int.ne_of_gt p)
    have lt:=Int.emod_lt_of_pos (cell / 6) p
    have le:(2:Int) ^ m.toNat≤2 ^ 12:=by
      rw [← pow_cast,← pow_cast]
      exact Int.ofNat_le.mpr (Nat.pow_le_pow_right (by decide) (by omega))
    have:(2:Int) ^ 12≤10 ^ 9:=by decide
    exact sm _ (by omega) (by omega)
end Ws
namespace Ws
open PySem
open Builtin.Int (intBits)
structure Road where
  f:Int
  t:Int
  w:Wd
  deriving DecidableEq
def toR:Wd→Rat
  | .pair a b=>Rat.divInt a b
  | _=>0
theorem toR_ofR (q:Rat):toR (ofR q)=q:=Rat.num_divInt_den q
theorem ofR_toR:∀ {w:Wd},isShare w=true→ofR (toR w)=w
  | .pair a b,h=>by
    obtain ⟨q,rfl,rfl⟩:=share_is h
    show ofR (Rat.divInt q.num q.den)=ofR q
    rw [Rat.num_divInt_den]
def shSum (ws:List Wd):Rat:=((ws.filter isShare).map toR).sum
def mayB:Kd→List Wd→Bool
  | .chances,ws=>decide (shSum ws≤1)
  | _,_=>true
def frm (p:Int) (rs:List Road):List Wd:=(rs.filter fun r=>decide (r.f=p)).map (·.w)
def endOk (n:Int) (r:Road):Bool:=decide (0≤r.f) && decide (r.f < n) && (decide (0≤r.t) && decide (r.t < n))
def numsOk (n:Int) (k:Nat):Bool:=decide (1≤n) && decide (n≤8) && decide (k≤64)
def startsOk (kd:Kd) (n:Int) (rs:List Road):Bool:=(List.range n.toNat).all fun p=>mayB kd (frm (p:Int) rs)
def worthsOk (kd:Kd) (rs:List Road):Bool:=rs.all fun r=>isWorth kd r.w
def netYes (kd:Kd) (n:Int) (rs:List Road):Bool:=numsOk n rs.length && (rs.all (endOk n) && startsOk kd n rs)
structure Good (kd:Kd) (most extra:Nat) (n:Nat) (rs:List Road):Prop where
  n1:1≤n
  n2:n≤most
  len:rs.length≤extra
  ends:rs.all (endOk n)=true
  worths:worthsOk kd rs=true
  sm:∀ r∈rs,Sm 200 r.w
  den:kd=.chances→∃ D:Int→Nat,∀ r∈rs,0 < D r.f∧D r.f < 2 ^ 24∧∃ k:Nat,toR r.w * (D r.f:Rat)=(k:Rat)
  starts:kd=.chances→∀ p:Int,shSum (frm p rs)≤1
theorem Good.yes {kd:Kd} {most extra n:Nat} {rs:List Road} (g:Good kd most extra n rs) (h8:most≤8) (h64:extra≤64):netYes kd n rs=true:=by
  have n1:=g.n1
  have n2:=g.n2
  have l:=g.len
  simp only [netYes,numsOk,Bool.and_eq_true,decide_eq_true_eq]
  refine ⟨⟨⟨by omega,by omega⟩,by omega⟩,g.ends,?_⟩
  simp only [startsOk,List.all_eq_true]
  intro p _
  cases kd <;> first | rfl | exact decide_eq_true (g.starts rfl p)
def shAll (ws:List Wd):Rat:=(ws.map toR).sum
theorem sum_mul (c:Rat):∀ l:List Rat,(l.map (· * c)).sum=l.sum * c
  | []=>by simp
  | x :: l=>by simp only [List.map_cons,List.sum_cons,sum_mul c l]; grind
def thinW (rs:List Road) (r:Road):Wd:=if 1 < shAll (frm r.f rs) then ofR (toR r.w * (shAll (frm r.f rs))⁻¹) else r.w
def thin (rs:List Road):List Road:=rs.map fun r=>{ r with w:=thinW rs r }
theorem frm_thin (p:Int) (rs:List Road):frm p (thin rs)=(rs.filter fun r=>decide (r.f=p)).map (thinW rs):=by
  unfold frm thin
  rw [List.filter_map,List.map_map]
  rfl
theorem sh_thin {p:Int} {rs:List Road} (hs:∀ r∈rs,isShare r.w=true):shSum (frm p (thin rs))≤1:=by
  have all:∀ r∈rs,isShare (thinW rs r)=true:=fun r hr=>by
    unfold thinW; split
    · exact ofR_share _
    · exact hs r hr
  rw [frm_thin]
  unfold shSum
  rw [List.filter_eq_self.mpr (fun w hw=>by
    obtain ⟨r,hr,rfl⟩:=List.mem_map.mp hw
    exact all r (List.mem_filter.mp hr).1),List.map_map]
  by_cases c:1 < shAll (frm p rs)
  · have e:(rs.filter fun r=>decide (r.f=p)).map (toR ∘ thinW rs)=((rs.filter fun r=>decide (r.f=p)).map fun r=>toR r.w).map (· * (shAll (frm p rs))⁻¹):=by
      rw [List.map_map]
      refine List.map_congr_left fun r hr=>?_
      have:r.f=p:=of_decide_eq_true (List.mem_filter.mp hr).2
      subst this
      show toR (thinW rs r)=toR r.w * _
      unfold thinW
      rw [if_pos c,toR_ofR]
    rw [e,sum_mul]
    have:((rs.filter fun r=>decide (r.f=p)).map fun r=>toR r.w).sum=shAll (frm p rs):=by
      unfold shAll frm
      rw [List.map_map]
      rfl
    rw [this,Rat.mul_inv_cancel _ (by grind)]
    exact Rat.le_refl
  · have e:(rs.filter fun r=>decide (r.f=p)).map (toR ∘ thinW rs)=(frm p rs).map toR:=by
      unfold frm
      rw [List.map_map]
      refine List.map_congr_left fun r hr=>?_
      have:r.f=p:=of_decide_eq_true (List.mem_filter.mp hr).2
      subst this
      show toR (thinW rs r)=toR r.w
      unfold thinW
      rw [if_neg c]
    rw [e]
    exact Rat.not_lt.mp c
end Ws
namespace Ws
open PySem
open Builtin.Int (intBits)
theorem rat_of_mul {q:Rat} {D k:Nat} (hD:0 < D) (h:q * (D:Rat)=(k:Rat)):q=Rat.divInt (k:Int) (D:Int):=by
  have z:(D:Rat)≠0:=by exact_mod_cast (Nat.ne_of_gt hD)
  rw [Rat.divInt_eq_div,Rat.div_def,Rat.intCast_natCast,Rat.intCast_natCast,← h,Rat.mul_assoc,Rat.mul_inv_cancel _ z,Rat.mul_one]
theorem sm_of_mul {q:Rat} {D k B:Nat} (hD:0 < D) (h:q * (D:Rat)=(k:Rat)) (h1:k < 2 ^ B) (h2:D < 2 ^ B):Sm B (ofR q):=by
  rw [rat_of_mul hD h]
  exact sm_div (by omega) (bits_nat h1) (bits_nat h2)
theorem draw4 {m cell:Int}:∃ k:Nat,toR (worthW 4 m cell) * (27720:Rat)=(k:Rat)∧k≤221760:=by
  have key:∀ t b:Int,0≤t→t≤8→1≤b→b≤12→∃ k:Nat,toR (shareW t b) * (27720:Rat)=(k:Rat)∧k≤221760:=by
    intro t b t0 t8 b1 b12
    rw [shareW_ofR (by omega),toR_ofR]
    have hb:∃ c:Nat,(c:Int) * b=27720∧c≤27720:=by
      have:b=1∨b=2∨b=3∨b=4∨b=5∨b=6∨b=7∨b=8∨b=9∨b=10∨b=11∨b=12:=by omega
      rcases this with rfl | rfl | rfl | rfl | rfl | rfl | rfl | rfl | rfl | rfl | rfl | rfl
      · exact ⟨27720,by decide,by decide⟩
      · exact ⟨13860,by decide,by decide⟩
      · exact ⟨9240,by decide,by decide⟩
      · exact ⟨6930,by decide,by decide⟩
      · exact ⟨5544,by decide,by decide⟩
      · exact ⟨4620,by decide,by decide⟩
      · exact ⟨3960,by decide,by decide⟩
      · exact ⟨3465,by decide,by decide⟩
      · exact ⟨3080,by decide,by decide⟩
      · exact ⟨2772,by decide,by decide⟩
      · exact ⟨2520,by decide,by decide⟩
      · exact ⟨2310,by decide,by decide⟩
    obtain ⟨c,hc,c2⟩:=hb
    obtain ⟨u,rfl⟩:∃ u:Nat,t=u:=⟨t.toNat,by omega⟩
    refine ⟨u * c,?_,?_⟩
    · have e:(27720:Rat)=(c:Rat) * ((b:Int):Rat):=by
        have:=congrArg (fun z:Int=>(z:Rat)) hc
        simp only [Rat.intCast_mul,Rat.intCast_natCast] at this
        rw [this]; rfl
      have z:((b:Int):Rat)≠0:=by exact_mod_cast (show b≠0 by omega)
      rw [e,Rat.divInt_eq_div,Rat.div_def,Rat.natCast_mul,Rat.intCast_natCast]
      generalize ((b:Int):Rat)=x at z
      generalize (u:Rat)=y
      generalize (c:Rat)=v
      have:x⁻¹ * x=1:=Rat.inv_mul_cancel _ z
      grind
    · have:u≤8:=by omega
      calc u * c≤8 * 27720:=Nat.mul_le_mul this c2
        _=221760:=by decide
  unfold worthW
  split
  · exact ⟨0,by decide +kernel,by decide⟩
  split
  · exact ⟨27720,by decide +kernel,by decide⟩
  simp only [show ¬ ((4:Int)=0) by decide,show ¬ ((4:Int)=1) by decide,show ¬ ((4:Int)=2) by decide,show ¬ ((4:Int)=3) by decide,if_false,if_true]
  have:=Int.emod_nonneg (cell / 6) (show (9:Int)≠0 by decide)
  have:=Int.emod_lt_of_pos (cell / 6) (show (0:Int) < 9 by decide)
  have:=Int.emod_nonneg (cell / 6 / 9) (show (12:Int)≠0 by decide)
  have:=Int.emod_lt_of_pos (cell / 6 / 9) (show (0:Int) < 12 by decide)
  exact key _ _ (by omega) (by omega) (by omega) (by omega)
theorem draws_sum {m:Int}:∀ ws:List Wd,(∀ x∈ws,∃ c,x=worthW 4 m c)→∃ W:Nat,shAll ws * (27720:Rat)=(W:Rat)∧W≤221760 * ws.length
  | [],_=>⟨0,by simp [shAll],by simp⟩
  | x :: ws,h=>by
    obtain ⟨W,e,l⟩:=draws_sum ws fun y hy=>h y (List.mem_cons_of_mem _ hy)
    obtain ⟨c,rfl⟩:=h x List.mem_cons_self
    obtain ⟨k,ek,lk⟩:=draw4 (m:=m) (cell:=c)
    refine ⟨k + W,?_,by rw [List.length_cons]; omega⟩
    unfold shAll at e ⊢
    rw [List.map_cons,List.sum_cons,Rat.natCast_add,← ek,← e]
    grind
theorem frm_len (p:Int) (rs:List Road):(frm p rs).length≤rs.length:=by
  unfold frm; rw [List.length_map]; exact List.length_filter_le _ _
theorem worth4_share {m c:Int} (hm:1≤m):isShare (worthW 4 m c)=true:=by
  have:=isWorth_worth (which:=4) (m:=m) (cell:=c) (by decide) (by decide) hm
  rw [show kdOf 4 m=.chances from rfl] at this
  revert this
  generalize worthW 4 m c=x
  cases x with
  | pair a b=>simp only [isWorth,Bool.and_eq_true]; exact fun h=>h.1
  | _=>intro h; simp [isWorth] at h
theorem num_nonneg_share {q:Rat} (h:0≤q):isWorth .chances (ofR q)=true:=isWorth_enc (kd:=.chances) ⟨q,h⟩
theorem toR_nonneg:∀ {w:Wd},isWorth .chances w=true→0≤toR w
  | .pair a b,h=>by
    simp only [isWorth,Bool.and_eq_true,decide_eq_true_eq] at h
    obtain ⟨q,rfl,rfl⟩:=share_is h.1
    show 0≤Rat.divInt q.num q.den
    rw [Rat.num_divInt_den]
    exact Rat.num_nonneg.mp h.2
theorem sum_nonneg:∀ l:List Rat,(∀ x∈l,0≤x)→0≤l.sum
  | [],_=>by simp
  | x :: l,h=>by
    rw [List.sum_cons]
    have:=sum_nonneg l fun y hy=>h y (List.mem_cons_of_mem _ hy)
    have:=h x List.mem_cons_self
    grind
theorem drawn_good {which m:Int} {most extra n:Nat} {rs:List Road} (h0:0≤which) (h7:which < 7) (m1:1≤m) (m2:m≤12) (n1:1≤n) (n2:n≤most) (len:rs.length≤extra) (hx:extra≤64) (ends:rs.all (endOk n)=true)
    (hw:∀ r∈rs,∃ c,r.w=worthW which m c):Good (kdOf which m) most extra n (if which=4 then thin rs else rs):=by
  by_cases h4:which=4
  · subst h4
    rw [if_pos rfl]
    have sh:∀ r∈rs,isShare r.w=true:=fun r hr=>by obtain ⟨c,e⟩:=hw r hr; rw [e]; exact worth4_share m1
    have W:∀ p,∃ W:Nat,shAll (frm p rs) * (27720:Rat)=(W:Rat)∧W < 2 ^ 24:=fun p=>by
      obtain ⟨W,e,l⟩:=draws_sum (m:=m) (frm p rs) fun x hx=>by
        obtain ⟨r,hr,rfl⟩:=List.mem_map.mp hx
        exact hw r (List.mem_filter.mp hr).1
      refine ⟨W,e,Nat.lt_of_le_of_lt l ?_⟩
      have:=frm_len p rs
      calc 221760 * (frm p rs).length≤221760 * 64:=Nat.mul_le_mul_left _ (by omega)
        _ < 2 ^ 24:=by decide
    have wt:∀ r∈rs,isWorth .chances (thinW rs r)=true∧∃ D:Nat,(∃ k:Nat,toR (thinW rs r) * (D:Rat)=(k:Rat)∧k < 2 ^ 24)∧(if 1 < shAll (frm r.f rs) then shAll (frm r.f rs) * 27720=(D:Rat) else D=27720)∧0 < D∧D < 2 ^ 24:=fun r hr=>by
      obtain ⟨c,e⟩:=hw r hr
      obtain ⟨k,ek,lk⟩:=draw4 (m:=m) (cell:=c)
      have iw:isWorth .chances r.w=true:=by rw [e]; exact isWorth_worth (which:=4) (by decide) (by decide) m1
      have lk:k < 2 ^ 24:=Nat.lt_of_le_of_lt lk (by decide)
      unfold thinW
      by_cases c1:1 < shAll (frm r.f rs)
      · obtain ⟨W,eW,lW⟩:=W r.f
        rw [if_pos c1]
        have pos:0 < shAll (frm r.f rs):=by grind
        have ipos:0≤(shAll (frm r.f rs))⁻¹:=by
          exact Rat.le_of_lt (Rat.inv_pos.mpr pos)
        refine ⟨num_nonneg_share (Rat.mul_nonneg (toR_nonneg iw) ipos),W,⟨k,?_,lk⟩,by rw [if_pos c1]; exact eW,?_,lW⟩
        · rw [toR_ofR,← eW,← ek,e]
          have z:shAll (frm r.f rs)≠0:=by grind
          have:(shAll (frm r.f rs))⁻¹ * shAll (frm r.f rs)=1:=Rat.inv_mul_cancel _ z
          generalize shAll (frm r.f rs)=x at this
          grind
        · rcases Nat.eq_zero_or_pos W with z | z
          · subst z
            exfalso
            have:shAll (frm r.f rs) * 27720=0:=eW
            grind
          · exact z
      · rw [if_neg c1]
        exact ⟨iw,27720,⟨k,by rw [e]; exact ek,lk⟩,by rw [if_neg c1],by decide,by decide⟩
    refine ⟨n1,n2,by unfold thin; rw [List.length_map]; exact len,?_,?_,fun r0 hr0=>?_,fun _=>?_,fun _ p=>sh_thin sh⟩
    · unfold thin
      rw [List.all_map]
      exact ends
    · unfold worthsOk thin
      rw [List.all_map,List.all_eq_true]
      exact fun r hr=>(wt r hr).1
    · obtain ⟨r,hr,rfl⟩:=List.mem_map.mp hr0
      obtain ⟨iw,D,⟨k,ek,lk⟩,_,D0,D1⟩:=wt r hr
      have si:isShare (thinW rs r)=true:=by
        unfold thinW; split
        · exact ofR_share _
        · exact sh r hr
      show Sm 200 (thinW rs r)
      rw [← ofR_toR si]
      exact (sm_of_mul D0 ek lk D1).mono (by decide)
    · refine ⟨fun p=>if 1 < shAll (frm p rs) then (W p).choose else 27720,fun r0 hr0=>?_⟩
      obtain ⟨r,hr,rfl⟩:=List.mem_map.mp hr0
      obtain ⟨iw,D,⟨k,ek,lk⟩,hD,D0,D1⟩:=wt r hr
      have:(if 1 < shAll (frm r.f rs) then (W r.f).choose else 27720)=D:=by
        by_cases c1:1 < shAll (frm r.f rs)
        · rw [if_pos c1] at hD ⊢
          have:=hD.symm.trans (W r.f).choose_spec.1
          exact_mod_cast this.symm
        · rw [if_neg c1] at hD ⊢
          exact hD.symm
      refine ⟨?_,?_,k,?_⟩
      · show 0 < (if 1 < shAll (frm r.f rs) then (W r.f).choose else 27720)
        rw [this]; exact D0
      · show (if 1 < shAll (frm r.f rs) then (W r.f).choose else 27720) < 2 ^ 24
        rw [this]; exact D1
      · show toR (thinW rs r) * ((if 1 < shAll (frm r.f rs) then (W r.f).choose else 27720:Nat):Rat)=(k:Rat)
        rw [this]; exact ek
  · rw [if_neg h4]
    have nc:kdOf which m≠.chances:=fun e=>h4 (by have:=kno_kdOf (m:=m) h0 h7; rw [e] at this; exact this.symm)
    refine ⟨n1,n2,len,ends,?_,fun r hr=>?_,fun e=>absurd e nc,fun e=>absurd e nc⟩
    · unfold worthsOk
      rw [List.all_eq_true]
      intro r hr
      obtain ⟨c,e⟩:=hw r hr
      rw [e]
      exact isWorth_worth h0 h7 m1
    · obtain ⟨c,e⟩:=hw r hr
      rw [e]
      exact (sm_worthW m1 m2).mono (by decide)
end Ws
namespace Ws
theorem kno_lo (kd:Kd):0≤kno kd:=by cases kd <;> simp [kno]
theorem kno_hi (kd:Kd):kno kd < 7:=by cases kd <;> simp [kno]
theorem good_sm {kd:Kd} {most extra n:Nat} {rs:List Road} (G:Good kd most extra n rs):∀ r∈rs,Sm 4000 r.w:=fun r hr=>(G.sm r hr).mono (by decide)
end Ws
namespace Ws
end Ws
namespace Ws
open PySem
structure Edge (S:Type) where
  f:Nat
  t:Nat
  c:S
def Edge.road (kd:Kd) (e:Edge (Car kd)):Road:=⟨e.f,e.t,enc kd e.c⟩
theorem edges_of {kd:Kd} {n:Nat}:∀ {rs:List Road},rs.all (endOk n)=true→worthsOk kd rs=true→∃ es:List (Edge (Car kd)),rs=es.map (Edge.road kd)∧∀ e∈es,e.f < n∧e.t < n
  | [],_,_=>⟨[],rfl,fun _ h=>nomatch h⟩
  | r :: rs,h1,h2=>by
    rw [List.all_cons,Bool.and_eq_true] at h1
    unfold worthsOk at h2
    rw [List.all_cons,Bool.and_eq_true] at h2
    obtain ⟨es,rfl,he⟩:=edges_of h1.2 h2.2
    obtain ⟨x,hx⟩:=enc_surj h2.1
    have h:=h1.1
    simp only [endOk,Bool.and_eq_true,decide_eq_true_eq] at h
    refine ⟨⟨r.f.toNat,r.t.toNat,x⟩ :: es,?_,fun e he'=>?_⟩
    · rw [List.map_cons]
      congr 1
      obtain ⟨f,t,w⟩:=r
      simp only [Edge.road] at *
      rw [← hx,show ((f.toNat:Nat):Int)=f by omega,show ((t.toNat:Nat):Int)=t by omega]
    · rcases List.mem_cons.mp he' with rfl | he'
      · exact ⟨by show r.f.toNat < n; omega,by show r.t.toNat < n; omega⟩
      · exact he e he'
structure Graph (kd:Kd) (n:Nat) (es:List (Edge (Car kd))):Prop where
  nb:n≤8
  ends:∀ e∈es,e.f < n∧e.t < n
  sm:∀ e∈es,Sm 200 (enc kd e.c)
  den:kd=.chances→∃ L:Nat,0 < L∧L < 2 ^ 192∧∀ e∈es,∃ k:Nat,toR (enc kd e.c) * (L:Rat)=(k:Rat)
  sub:kd=.chances→∀ p:Int,shSum (frm p (es.map (Edge.road kd)))≤1
def prodTo (f:Nat→Nat):Nat→Nat
  | 0=>1
  | n + 1=>prodTo f n * f n
theorem prodTo_pos {f:Nat→Nat} (h:∀ i,0 < f i):∀ n,0 < prodTo f n
  | 0=>Nat.one_pos
  | n + 1=>Nat.mul_pos (prodTo_pos h n) (h n)
theorem prodTo_lt {f:Nat→Nat} {B:Nat} (h:∀ i,f i < 2 ^ B):∀ n,prodTo f n≤2 ^ (B * n)
  | 0=>by simp [prodTo]
  | n + 1=>by
    rw [Nat.mul_succ,Nat.pow_add]
    exact Nat.mul_le_mul (prodTo_lt h n) (Nat.le_of_lt (h n))
theorem prodTo_dvd {f:Nat→Nat}:∀ {n i:Nat},i < n→f i ∣ prodTo f n
  | n + 1,i,h=>by
    by_cases e:i=n
    · subst e; exact Nat.dvd_mul_left _ _
    · exact Nat.dvd_trans (prodTo_dvd (show i < n by omega)) (Nat.dvd_mul_right _ _)
theorem Good.graph {kd:Kd} {most extra n:Nat} {rs:List Road} (G:Good kd most extra n rs) (h8:most≤8):∃ es:List (Edge (Car kd)),rs=es.map (Edge.road kd)∧Graph kd n es:=by
  obtain ⟨es,rfl,he⟩:=edges_of G.ends G.worths
  refine ⟨es,rfl,Nat.le_trans G.n2 h8,he,fun e h=>G.sm _ (List.mem_map.mpr ⟨e,h,rfl⟩),fun hc=>?_,fun hc p=>G.starts hc p⟩
  obtain ⟨D,hD⟩:=G.den hc
  have n8:n≤8:=Nat.le_trans G.n2 h8
  let f:Nat→Nat:=fun i=>if 0 < D i∧D i < 2 ^ 24 then D i else 1
  have f0:∀ i,0 < f i:=fun i=>by show 0 < (if _ then _ else _); split <;> omega
  have f1:∀ i,f i < 2 ^ 24:=fun i=>by
    show (if _ then _ else _) < _
    split
    · rename_i h; exact h.2
    · decide
  have lt:prodTo f n < 2 ^ 192 * 1 + 1:=by
    have:=prodTo_lt f1 n
    have:2 ^ (24 * n)≤2 ^ 192:=Nat.pow_le_pow_right (by decide) (by omega)
    omega
  by_cases top:prodTo f n=2 ^ 192
  · exfalso
    have:prodTo f n < 2 ^ 192:=by
      cases n with
      | zero=>exact absurd G.n1 (by decide)
      | succ k =>
        show prodTo f k * f k < _
        have a1:=prodTo_lt f1 k
        have a2:2 ^ (24 * k)≤2 ^ 168:=Nat.pow_le_pow_right (by decide) (by omega)
        calc prodTo f k * f k≤2 ^ 168 * f k:=Nat.mul_le_mul_right _ (by omega)
          _ < 2 ^ 168 * 2 ^ 24:=Nat.mul_lt_mul_of_pos_left (f1 k) (Nat.two_pow_pos _)
          _=2 ^ 192:=by rw [← Nat.pow_add]
    omega
  · refine ⟨prodTo f n,prodTo_pos f0 n,by omega,fun e he'=>?_⟩
    obtain ⟨d0,d1,k,ek⟩:=hD _ (List.mem_map.mpr ⟨e,he',rfl⟩)
    have ef:f e.f=D (e.f:Int):=by show (if _ then _ else _)=_; exact if_pos ⟨d0,d1⟩
    obtain ⟨c,hc⟩:=prodTo_dvd (f:=f) (he e he').1
    refine ⟨k * c,?_⟩
    rw [hc,ef,Rat.natCast_mul,Rat.natCast_mul,← ek,Rat.mul_assoc]
    rfl
def walkE {S:Type} (M:KSR S) (es:List (Edge S)):Nat→S→List Int→Option (Nat × S)
  | h,x,[]=>some (h,x)
  | h,x,k :: row=>if k < 0∨(es.length:Int)≤k then none else match es[k.toNat]? with
    | none=>none
    | some e=>if e.f=h then walkE M es e.t (M.mul x e.c) row else none
end Ws
namespace Ws
theorem walkE_app {S:Type} (M:KSR S) (es:List (Edge S)):∀ (r1 r2:List Int) (h:Nat) (x:S),walkE M es h x (r1 ++ r2)=(walkE M es h x r1).bind fun p=>walkE M es p.1 p.2 r2
  | [],r2,h,x=>rfl
  | k :: r1,r2,h,x=>by
    rw [List.cons_append,walkE,walkE]
    split
    · rfl
    · cases es[k.toNat]? with
      | none=>rfl
      | some e =>
        dsimp only
        split
        · exact walkE_app M es r1 r2 e.t (M.mul x e.c)
        · rfl
structure Walked {S:Type} (M:KSR S) (es:List (Edge S)) (p:Nat) (row ss:List Nat) (x:S):Prop where
  len:ss.length=row.length + 1
  at_:∀ j,j≤row.length→∃ h y,ss[j]?=some h∧walkE M es p M.one ((row.take j).map fun k:Nat=>(k:Int))=some (h,y)
  end_:∃ h,ss[row.length]?=some h∧walkE M es p M.one (row.map fun k:Nat=>(k:Int))=some (h,x)
theorem Walked.more {S:Type} {M:KSR S} {es:List (Edge S)} {p:Nat} {row ss:List Nat} {x:S} {k h:Nat} {e:Edge S} (W:Walked M es p row ss x) (hh:ss[row.length]?=some h) (ek:es[k]?=some e) (hf:e.f=h) :
    Walked M es p (row ++ [k]) (ss ++ [e.t]) (M.mul x e.c):=by
  obtain ⟨h',e1,e2⟩:=W.end_
  rw [hh] at e1; cases e1
  have lk:k < es.length:=(List.getElem?_eq_some_iff.mp ek).1
  have fin:walkE M es p M.one ((row ++ [k]).map fun k:Nat=>(k:Int))=some (e.t,M.mul x e.c):=by
    rw [List.map_append,walkE_app,e2]
    show walkE M es h x [(k:Int)]=_
    rw [walkE,if_neg (by omega),Int.toNat_natCast,ek]
    dsimp only
    rw [if_pos hf]; rfl
  have l:=W.len
  refine ⟨by simp only [List.length_append,List.length_singleton]; omega,fun j hj=>?_,e.t,?_,fin⟩
  · rw [List.length_append,List.length_singleton] at hj
    by_cases c:j≤row.length
    · obtain ⟨h2,y,f1,f2⟩:=W.at_ j c
      refine ⟨h2,y,?_,?_⟩
      · rw [List.getElem?_append_left (by omega)]; exact f1
      · rw [List.take_append_of_le_length c]; exact f2
    · obtain rfl:j=row.length + 1:=by omega
      refine ⟨e.t,M.mul x e.c,?_,?_⟩
      · rw [List.getElem?_append_right (by omega)]; simp [l]
      · rw [List.take_of_length_le (by simp)]; exact fin
  · rw [List.length_append,List.length_singleton,List.getElem?_append_right (by omega)]; simp [l]
end Ws
namespace Ws
end Ws
namespace Ws
namespace KSR
variable {S : Type} (M : KSR S)
def sum (l:List S):S:=l.foldr M.add M.zero
theorem sum_app:∀ l r:List S,M.sum (l ++ r)=M.add (M.sum l) (M.sum r)
  | [],r=>(M.zero_add _).symm
  | x :: l,r=>by
    show M.add x (M.sum (l ++ r))=_
    rw [sum_app l r,← M.add_assoc]; rfl
theorem sum_snoc (l:List S) (x:S):M.sum (l ++ [x])=M.add (M.sum l) x:=by
  rw [M.sum_app]
  show M.add _ (M.add x M.zero)=_
  rw [M.add_zero]
theorem sum_mul (c:S):∀ l:List S,M.mul (M.sum l) c=M.sum (l.map fun x=>M.mul x c)
  | []=>M.zero_mul c
  | x :: l=>by
    show M.mul (M.add x (M.sum l)) c=M.add (M.mul x c) (M.sum (l.map _))
    rw [M.add_mul,sum_mul c l]
theorem mul_sum (c:S):∀ l:List S,M.mul c (M.sum l)=M.sum (l.map fun x=>M.mul c x)
  | []=>M.mul_zero c
  | x :: l=>by
    show M.mul c (M.add x (M.sum l))=M.add (M.mul c x) (M.sum (l.map _))
    rw [M.mul_add,mul_sum c l]
theorem add4 (a b c d:S):M.add (M.add a b) (M.add c d)=M.add (M.add a c) (M.add b d):=by
  rw [M.add_assoc,M.add_assoc,← M.add_assoc b,M.add_comm b c,M.add_assoc c]
theorem sum_add {α:Type} (f g:α→S):∀ l:List α,M.sum (l.map fun x=>M.add (f x) (g x))=M.add (M.sum (l.map f)) (M.sum (l.map g))
  | []=>(M.zero_add _).symm
  | x :: l=>by
    show M.add (M.add (f x) (g x)) (M.sum (l.map _))=M.add (M.add (f x) (M.sum (l.map f))) (M.add (g x) (M.sum (l.map g)))
    rw [sum_add f g l,M.add4]
theorem sum_zero {α:Type}:∀ l:List α,M.sum (l.map fun _=>M.zero)=M.zero
  | []=>rfl
  | _ :: l=>by
    show M.add M.zero (M.sum (l.map _))=_
    rw [sum_zero l,M.zero_add]
theorem sum_swap {α β:Type} (f:α→β→S) (r:List β):∀ l:List α,M.sum (l.map fun x=>M.sum (r.map fun y=>f x y))=M.sum (r.map fun y=>M.sum (l.map fun x=>f x y))
  | []=>(M.sum_zero r).symm
  | x :: l=>by
    show M.add (M.sum (r.map (f x))) (M.sum (l.map _))=M.sum (r.map fun y=>M.add (f x y) (M.sum (l.map fun x=>f x y)))
    rw [sum_swap f r l,M.sum_add]
theorem sum_congr {α:Type} {f g:α→S}:∀ {l:List α},(∀ x∈l,f x=g x)→M.sum (l.map f)=M.sum (l.map g)
  | [],_=>rfl
  | x :: l,h=>by
    show M.add (f x) (M.sum (l.map f))=M.add (g x) (M.sum (l.map g))
    rw [h x List.mem_cons_self,sum_congr fun y hy=>h y (List.mem_cons_of_mem _ hy)]
def when (p:Prop) [Decidable p] (x:S):S:=if p then x else M.zero
theorem when_mul (p:Prop) [Decidable p] (x c:S):M.mul (M.when p x) c=M.when p (M.mul x c):=by
  unfold KSR.when; split
  · rfl
  · exact M.zero_mul c
theorem mul_when (p:Prop) [Decidable p] (x c:S):M.mul c (M.when p x)=M.when p (M.mul c x):=by
  unfold KSR.when; split
  · rfl
  · exact M.mul_zero c
theorem when_when (p q:Prop) [Decidable p] [Decidable q] (x:S):M.when p (M.when q x)=M.when q (M.when p x):=by
  unfold KSR.when; split <;> split <;> rfl
theorem sum_range_one {n i:Nat} (h:i < n) (f:Nat→S):M.sum ((List.range n).map fun k=>M.when (k=i) (f k))=f i:=by
  induction n with
  | zero=>omega
  | succ n ih =>
    rw [List.range_succ,List.map_append,List.map_singleton,M.sum_snoc]
    by_cases e:i=n
    · subst e
      rw [M.sum_congr (g:=fun _=>M.zero) (fun k hk=>by rw [KSR.when,if_neg (by have:=List.mem_range.mp hk; omega)]),M.sum_zero,M.zero_add,KSR.when,if_pos rfl]
    · rw [ih (by omega),KSR.when,if_neg (Ne.symm e),M.add_zero]
end KSR
section
variable {S : Type} (M : KSR S) (es : List (Edge S))
def stepV (f:Nat→S) (t:Nat):S:=M.sum (es.map fun e=>M.when (e.t=t) (M.mul (f e.f) e.c))
def unitV (p:Nat):Nat→S:=fun i=>M.when (i=p) M.one
def stepsV (p:Nat):Nat→Nat→S
  | 0=>unitV M p
  | k + 1=>stepV M es (stepsV p k)
end
end Ws
namespace Ws
open PySem
theorem sm_add2 {kd:Kd} {ok:KdOk kd} (hc:kd≠.chances) {x y:Car kd} {B:Nat} (h1:Sm B (enc kd x)) (h2:Sm B (enc kd y)):Sm (B + 1) (enc kd ((ks kd ok).add x y)):=by
  cases kd with
  | fewest =>
    rcases x with _ | i
    · cases y <;> exact h2.mono (by omega)
    · rcases y with _ | j
      · exact h1.mono (by omega)
      · exact (sm_nat (Nat.min_le_left i j) h1).mono (by omega)
  | widest =>
    by_cases c:x.1≤y.1
    · exact (sm_nat (show max x.1 y.1≤y.1 by omega) h2).mono (by omega)
    · exact (sm_nat (show max x.1 y.1≤x.1 by omega) h1).mono (by omega)
  | counted =>
    rcases x with _ | i
    · exact h1.mono (by omega)
    · rcases y with _ | j
      · exact h2.mono (by omega)
      · refine sm_lt ?_
        have:=lt_sm h1
        have:=lt_sm h2
        rw [Nat.pow_succ]; omega
  | likeliest =>
    show Sm (B + 1) (ofR (rmax x.1 y.1))
    unfold rmax
    split
    · exact h2.mono (by omega)
    · exact h1.mono (by omega)
  | chances=>exact absurd rfl hc
  | musts =>
    rcases x with _ | i
    · cases y <;> exact h2.mono (by omega)
    · rcases y with _ | j
      · exact h1.mono (by omega)
      · exact (sm_nat Nat.and_le_left h1).mono (by omega)
  | rests m =>
    refine (sm_lt ?_).mono (Nat.le_succ B)
    exact Nat.or_lt_two_pow (lt_sm h1) (lt_sm h2)
def Over (D:Nat) (e:Edge Cha) (q:Edge (Option Nat)):Prop:=e.f=q.f∧e.t=q.t∧∃ k:Nat,q.c=some k∧e.c.1 * (D:Rat)=(k:Rat)
theorem over_step {D Dk:Nat} {f:Nat→Cha} {g:Nat→Option Nat} (h:∀ i,∃ N:Nat,g i=some N∧(f i).1 * (Dk:Rat)=(N:Rat)) (t:Nat) :
    ∀ {es:List (Edge Cha)} {ps:List (Edge (Option Nat))},PySem.Paired (Over D) es ps→∃ N:Nat,stepV ksCounted ps g t=some N∧(stepV ksChances es f t).1 * ((Dk * D:Nat):Rat)=(N:Rat)
  | _,_,.nil=>⟨0,rfl,by show (0:Rat) * _=_; rw [Rat.zero_mul]; rfl⟩
  | e :: es,q :: ps,.cons ⟨e1,e2,k,e3,e4⟩ r=>by
    obtain ⟨N,n1,n2⟩:=over_step (D:=D) h t r
    obtain ⟨A,a1,a2⟩:=h e.f
    have hc:∃ B:Nat,ksCounted.when (q.t=t) (ksCounted.mul (g q.f) q.c)=some B∧(ksChances.when (e.t=t) (ksChances.mul (f e.f) e.c)).1 * ((Dk * D:Nat):Rat)=(B:Rat):=by
      rw [← e1,← e2,e3,a1]
      unfold KSR.when
      by_cases c:e.t=t
      · rw [if_pos c,if_pos c]
        refine ⟨A * k,oMul_some A k,?_⟩
        show (f e.f).1 * e.c.1 * _=_
        rw [Rat.natCast_mul,Rat.natCast_mul,← a2,← e4]
        generalize (f e.f).1=u
        generalize e.c.1=v
        generalize (Dk:Rat)=w1
        generalize (D:Rat)=w2
        grind
      · rw [if_neg c,if_neg c]
        exact ⟨0,rfl,by show (0:Rat) * _=_; rw [Rat.zero_mul]; rfl⟩
    obtain ⟨B,b1,b2⟩:=hc
    refine ⟨B + N,?_,?_⟩
    · show ksCounted.add (ksCounted.when (q.t=t) (ksCounted.mul (g q.f) q.c)) (stepV ksCounted ps g t)=_
      rw [b1,n1]; rfl
    · show ((ksChances.when (e.t=t) (ksChances.mul (f e.f) e.c)).1 + (stepV ksChances es f t).1) * _=_
      rw [Rat.natCast_add,← b2,← n2]
      generalize (ksChances.when (e.t=t) (ksChances.mul (f e.f) e.c)).1=u
      generalize (stepV ksChances es f t).1=v
      generalize ((Dk * D:Nat):Rat)=w1
      grind
theorem over_steps {D:Nat} {es:List (Edge Cha)} {ps:List (Edge (Option Nat))} (r:PySem.Paired (Over D) es ps) (p:Nat):∀ k i,∃ N:Nat,stepsV ksCounted ps p k i=some N∧(stepsV ksChances es p k i).1 * ((D ^ k:Nat):Rat)=(N:Rat)
  | 0,i=>by
    show ∃ N:Nat,ksCounted.when (i=p) ksCounted.one=some N∧(ksChances.when (i=p) ksChances.one).1 * _=_
    unfold KSR.when
    by_cases c:i=p
    · rw [if_pos c,if_pos c]; exact ⟨1,rfl,by show (1:Rat) * _=_; rw [Rat.one_mul,Nat.pow_zero]⟩
    · rw [if_neg c,if_neg c]; exact ⟨0,rfl,by show (0:Rat) * _=_; rw [Rat.zero_mul]; rfl⟩
  | k + 1,i=>by
    rw [Nat.pow_succ]
    exact over_step (fun j=>over_steps r p k j) i r
theorem rat_mul_den (p:Rat):p * (p.den:Rat)=(p.num:Rat):=by
  have z:(p.den:Rat)≠0:=by intro z; have:=p.den_nz; exact this (by exact_mod_cast z)
  have e:p=(p.num:Rat) / ((p.den:Int):Rat):=by
    conv=>lhs; rw [← Rat.num_divInt_den p]
    rw [Rat.divInt_eq_div]
  rw [Rat.intCast_natCast] at e
  rw [Rat.div_def] at e
  have:=congrArg (fun x=>x * (p.den:Rat)) e
  refine this.trans ?_
  show (p.num:Rat) * (p.den:Rat)⁻¹ * (p.den:Rat)=p.num
  rw [Rat.mul_assoc,Rat.inv_mul_cancel _ z,Rat.mul_one]
def OverP (D:Nat) (es:List (Edge (Car .chances))) (ps:List (Edge (Car .counted))):Prop:=PySem.Paired (Over D) es ps
theorem OverP.nil (D:Nat):OverP D [] []:=PySem.Paired.nil
theorem OverP.snoc {D:Nat} {es:List (Edge (Car .chances))} {ps:List (Edge (Car .counted))} {e:Edge (Car .chances)} {k:Nat} (h:OverP D es ps) (e4:e.c.1 * (D:Rat)=(k:Rat)):OverP D (es ++ [e]) (ps ++ [⟨e.f,e.t,some k⟩]):=PySem.Paired.snoc h ⟨rfl,rfl,k,rfl,e4⟩
end Ws
namespace Ws
open PySem
theorem sm_step {kd : Kd} {ok : KdOk kd} (hc : kd ≠ .chances) {es : List (Edge (Car kd))} {R B : Nat} (hR : ∀ e ∈ es, Sm R (enc kd e.c)) {f : Nat → Car kd} (hf : ∀ e ∈ es, Sm B (enc kd (f e.f))) (t : Nat) :
    Sm (B + R + 13 + es.length) (enc kd (stepV (ks kd ok) es f t)) := by
  induction es with
  | nil => exact (sm_zero kd ok).mono (by have : 1 ≤ 13 := by decide
                                          omega)
  | cons e es ih =>
    have ih := ih (fun x hx => hR x (List.mem_cons_of_mem _ hx)) (fun x hx => hf x (List.mem_cons_of_mem _ hx))
    have a := sm_mul (ok := ok) (hf e List.mem_cons_self) (hR e List.mem_cons_self)
    show Sm _ (enc kd ((ks kd ok).add ((ks kd ok).when (e.t = t) ((ks kd ok).mul (f e.f) e.c)) (stepV (ks kd ok) es f t)))
    have a2 : Sm (B + R + 13 + es.length) (enc kd ((ks kd ok).when (e.t = t) ((ks kd ok).mul (f e.f) e.c))) := by
      unfold KSR.when
      split
      · exact a.mono (by omega)
      · exact (sm_zero kd ok).mono (by omega)
    exact (sm_add2 hc a2 ih).mono (by rw [List.length_cons]; omega)
theorem sm_steps {kd:Kd} {ok:KdOk kd} (hc:kd≠.chances) {es:List (Edge (Car kd))} {R:Nat} (hR:∀ e∈es,Sm R (enc kd e.c)) (hl:es.length≤64) (p:Nat):∀ k i,Sm (k * (R + 80) + 30) (enc kd (stepsV (ks kd ok) es p k i))
  | 0,i=>by
    show Sm _ (enc kd ((ks kd ok).when (i=p) (ks kd ok).one))
    unfold KSR.when
    split
    · exact (sm_one kd ok).mono (by omega)
    · exact (sm_zero kd ok).mono (by omega)
  | k + 1,i=>(sm_step hc hR (fun e _=>sm_steps hc hR hl p k e.f) i).mono (by rw [Nat.succ_mul]; omega)
structure Fits (kd:Kd) (ok:KdOk kd) (es:List (Edge (Car kd))) (p k B:Nat):Prop where
  at_:∀ i,i≤k→∀ t,Sm B (enc kd (stepsV (ks kd ok) es p i t))
  mul:∀ i,i < k→∀ e∈es,Sm B (enc kd ((ks kd ok).mul (stepsV (ks kd ok) es p i e.f) e.c))
  sum:∀ i,i < k→∀ j t,Sm B (enc kd (stepV (ks kd ok) (es.take j) (stepsV (ks kd ok) es p i) t))
theorem Fits.mono {kd:Kd} {ok:KdOk kd} {es:List (Edge (Car kd))} {p k B C:Nat} (F:Fits kd ok es p k B) (h:B≤C):Fits kd ok es p k C:=⟨fun i hi t=>(F.at_ i hi t).mono h,fun i hi e he=>(F.mul i hi e he).mono h,fun i hi j t=>(F.sum i hi j t).mono h⟩
theorem fits_plain {kd:Kd} {ok:KdOk kd} (hc:kd≠.chances) {es:List (Edge (Car kd))} {R:Nat} (hR:∀ e∈es,Sm R (enc kd e.c)) (hl:es.length≤64) (p k:Nat):Fits kd ok es p k (k * (R + 80) + 30 + R):=by
  have mono:∀ i,i≤k→i * (R + 80)≤k * (R + 80):=fun i hi=>Nat.mul_le_mul_right _ hi
  refine ⟨fun i hi t=>(sm_steps hc hR hl p i t).mono (by have:=mono i hi; omega),fun i hi e he=>?_,fun i hi j t=>?_⟩
  · refine (sm_mul (sm_steps hc hR hl p i e.f) (hR e he)).mono ?_
    have:=mono (i + 1) hi
    rw [Nat.succ_mul] at this; omega
  · refine (sm_step hc (es:=es.take j) (fun e he=>hR e (List.mem_of_mem_take he)) (fun e _=>sm_steps hc hR hl p i e.f) t).mono ?_
    have:=mono (i + 1) hi
    have l2:(es.take j).length≤64:=by rw [List.length_take]; omega
    rw [Nat.succ_mul] at this; omega
theorem overP_of {L:Nat}:∀ {es:List (Edge (Car .chances))},(∀ e∈es,∃ k:Nat,toR (enc .chances e.c) * (L:Rat)=(k:Rat))→∃ ps:List (Edge (Car .counted)),PySem.Paired (Over L) es ps∧∀ q∈ps,∃ e∈es,∃ k:Nat,q.c=(some k:Option Nat)∧e.c.1 * (L:Rat)=(k:Rat)
  | [],_=>⟨[],.nil,fun q hq=>nomatch hq⟩
  | e :: es,h=>by
    obtain ⟨ps,hp,hq⟩:=overP_of fun x hx=>h x (List.mem_cons_of_mem _ hx)
    obtain ⟨k,ek⟩:=h e List.mem_cons_self
    have ek:e.c.1 * (L:Rat)=(k:Rat):=by
      have:toR (enc .chances e.c)=e.c.1:=toR_ofR _
      rw [this] at ek; exact ek
    refine ⟨⟨e.f,e.t,(some k:Option Nat)⟩ :: ps,.cons ⟨rfl,rfl,k,rfl,ek⟩ hp,fun q hq'=>?_⟩
    rcases List.mem_cons.mp hq' with rfl | hq'
    · exact ⟨e,List.mem_cons_self,k,rfl,ek⟩
    · obtain ⟨e',he',r⟩:=hq q hq'
      exact ⟨e',List.mem_cons_of_mem _ he',r⟩
theorem nat_of_mul {q:Rat} {L k B C:Nat} (h:q * (L:Rat)=(k:Rat)) (hq:Sm B (ofR q)) (hL:L < 2 ^ C) (h0:0≤q):k < 2 ^ (B + C):=by
  have n0:0≤q.num:=Rat.num_nonneg.mpr h0
  have hb:q.num.natAbs < 2 ^ B:=intBits_le_iff.mp hq.1
  have e:(k:Rat) * (q.den:Rat)=((q.num.toNat * L:Nat):Rat):=by
    rw [Rat.natCast_mul,show ((q.num.toNat:Nat):Rat)=((q.num:Int):Rat) by rw [← Rat.intCast_natCast,Int.toNat_of_nonneg n0],← rat_mul_den q,← h]
    generalize (q.den:Rat)=x
    generalize (L:Rat)=y
    grind
  have e:k * q.den=q.num.toNat * L:=by
    rw [← Rat.natCast_mul] at e
    exact_mod_cast e
  have d:=den_pos q
  have:k≤k * q.den:=Nat.le_mul_of_pos_right _ (by omega)
  calc k≤q.num.toNat * L:=by omega
    _ < 2 ^ B * 2 ^ C:=Nat.mul_lt_mul'' (by omega) hL
    _=2 ^ (B + C):=by rw [← Nat.pow_add]
theorem paired_take' {α β:Type} {F:α→β→Prop}:∀ {xs:List α} {ys:List β} (k:Nat),PySem.Paired F xs ys→PySem.Paired F (xs.take k) (ys.take k)
  | _,_,0,_=>by rw [List.take_zero,List.take_zero]; exact .nil
  | [],[],_ + 1,.nil=>.nil
  | _ :: _,_ :: _,k + 1,.cons h t=>.cons h (paired_take' k t)
theorem sm_frac {q:Rat} {L N i B:Nat} (L0:0 < L) (L1:L < 2 ^ 192) (h:q * ((L ^ i:Nat):Rat)=(N:Rat)) (hN:Sm B (.int (N:Int))):Sm (B + 192 * i + 1) (ofR q):=by
  have b:=lt_sm hN
  refine sm_of_mul (k:=N) (D:=L ^ i) (Nat.pow_pos L0) h (Nat.lt_of_lt_of_le b (Nat.pow_le_pow_right (by decide) (by omega))) ?_
  have p1:L ^ i≤(2 ^ 192) ^ i:=Nat.pow_le_pow_left (Nat.le_of_lt L1) i
  rw [← Nat.pow_mul] at p1
  have:2 ^ (192 * i) < 2 ^ (B + 192 * i + 1):=Nat.pow_lt_pow_right (by decide) (by omega)
  omega
theorem fits_chances {es:List (Edge (Car .chances))} {n:Nat} (G:Graph .chances n es) (hl:es.length≤64) (p k:Nat):Fits .chances trivial es p k (k * 664 + 900):=by
  obtain ⟨L,L0,L1,hL⟩:=G.den rfl
  obtain ⟨ps,hov,hps⟩:=overP_of hL
  have pl:ps.length≤64:=Nat.le_trans (Nat.le_of_eq hov.length.symm) hl
  have hR:∀ q∈ps,Sm 392 (enc .counted q.c):=fun q hq=>by
    obtain ⟨e,he,j,e1,e2⟩:=hps q hq
    rw [e1]
    exact sm_lt (nat_of_mul (B:=200) (C:=192) e2 (G.sm e he) L1 e.c.2)
  have F:=fits_plain (kd:=.counted) (ok:=trivial) (by intro z; cases z) hR pl p k
  have st:∀ i t,∃ N:Nat,stepsV ksCounted ps p i t=some N∧(stepsV ksChances es p i t).1 * ((L ^ i:Nat):Rat)=(N:Rat):=over_steps hov p
  have b1:∀ i,i≤k→192 * i≤192 * k:=fun i hi=>Nat.mul_le_mul_left _ hi
  refine ⟨fun i hi t=>?_,fun i hi e he=>?_,fun i hi j t=>?_⟩
  · obtain ⟨N,n1,n2⟩:=st i t
    have a:=F.at_ i hi t
    have e:stepsV (ks .counted trivial) ps p i t=(some N:Option Nat):=n1
    rw [e] at a
    exact (sm_frac L0 L1 n2 a).mono (by have:=b1 i hi; omega)
  · obtain ⟨N,n1,n2⟩:=st i e.f
    have a:=F.at_ i (by omega) e.f
    have e':stepsV (ks .counted trivial) ps p i e.f=(some N:Option Nat):=n1
    rw [e'] at a
    have:=sm_mulR (sm_frac L0 L1 n2 a) (G.sm e he)
    exact Sm.mono (by have:=b1 i (by omega); omega) this
  · obtain ⟨N,n1,n2⟩:=over_step (D:=L) (Dk:=L ^ i) (fun b=>st i b) t (paired_take' j hov)
    have a:=F.sum i hi j t
    have e:stepV (ks .counted trivial) (ps.take j) (stepsV (ks .counted trivial) ps p i) t=(some N:Option Nat):=n1
    rw [e] at a
    rw [← Nat.pow_succ] at n2
    exact (sm_frac L0 L1 n2 a).mono (by have:=b1 (i + 1) hi; omega)
theorem Graph.fits {kd:Kd} {ok:KdOk kd} {n:Nat} {es:List (Edge (Car kd))} (G:Graph kd n es) (hl:es.length≤64) (p:Nat) {k:Nat} (hk:k≤60):Fits kd ok es p k 50000:=by
  by_cases hc:kd=.chances
  · subst hc
    exact (fits_chances G hl p k).mono (by omega)
  · exact (fits_plain hc G.sm hl p k).mono (by omega)
end Ws
namespace Ws
open PySem
section
variable {S : Type} (M : KSR S)
abbrev Mat (S:Type):=Nat→Nat→S
def ledA (A:Mat S) (k:Nat) (r:S):Mat S:=fun i j=>M.add (A i j) (M.mul (M.mul (A i k) r) (A k j))
def stageA (A0:Mat S):Nat→Option (Mat S)
  | 0=>some A0
  | k + 1=>(stageA A0 k).bind fun A=>(M.star (A k k)).map fun r=>ledA M A k r
def tabA (A:Mat S):Mat S:=fun i j=>if i=j then M.add M.one (A i j) else A i j
theorem tabA_eq (A:Mat S) (i j:Nat):tabA M A i j=M.add (M.when (i=j) M.one) (A i j):=by
  unfold tabA KSR.when
  split
  · rfl
  · rw [M.zero_add]
abbrev KSR.to (k:Nat) (f:Nat→S):S:=M.sum ((List.range k).map f)
theorem to_succ (k:Nat) (f:Nat→S):M.to (k + 1) f=M.add (M.to k f) (f k):=by
  unfold KSR.to
  rw [List.range_succ,List.map_append,List.map_singleton,M.sum_snoc]
theorem to_add (k:Nat) (f g:Nat→S):M.to k (fun l=>M.add (f l) (g l))=M.add (M.to k f) (M.to k g):=M.sum_add f g _
theorem to_mul (k:Nat) (f:Nat→S) (c:S):M.mul (M.to k f) c=M.to k fun l=>M.mul (f l) c:=by
  unfold KSR.to; rw [M.sum_mul,List.map_map]; rfl
theorem mul_to (k:Nat) (f:Nat→S) (c:S):M.mul c (M.to k f)=M.to k fun l=>M.mul c (f l):=by
  unfold KSR.to; rw [M.mul_sum,List.map_map]; rfl
structure Rec (A0:Mat S) (k:Nat) (A:Mat S):Prop where
  fw:∀ i j,A i j=M.add (A0 i j) (M.to k fun l=>M.mul (A0 i l) (A l j))
  bw:∀ i j,A i j=M.add (A0 i j) (M.to k fun l=>M.mul (A i l) (A0 l j))
theorem Rec.led {A0 A:Mat S} {k:Nat} {r:S} (R:Rec M A0 k A) (hr:M.star (A k k)=some r):Rec M A0 (k + 1) (ledA M A k r):=by
  have sr:r=M.add M.one (M.mul (A k k) r):=M.star_eq _ _ hr
  refine ⟨fun i j=>?_,fun i j=>?_⟩
  · rw [to_succ]
    have e1:(M.to k fun l=>M.mul (A0 i l) (ledA M A k r l j))=M.add (M.to k fun l=>M.mul (A0 i l) (A l j)) (M.mul (M.mul (M.to k fun l=>M.mul (A0 i l) (A l k)) r) (A k j)):=by
      rw [to_mul,to_mul,← to_add]
      refine M.sum_congr fun l _=>?_
      show M.mul (A0 i l) (M.add (A l j) (M.mul (M.mul (A l k) r) (A k j)))=_
      rw [M.mul_add,← M.mul_assoc,← M.mul_assoc]
    have e2:ledA M A k r k j=M.mul r (A k j):=by
      show M.add (A k j) (M.mul (M.mul (A k k) r) (A k j))=_
      conv=>rhs; rw [sr,M.add_mul,M.one_mul]
    rw [e1,e2]
    show M.add (A i j) (M.mul (M.mul (A i k) r) (A k j))=_
    have f1:=R.fw i j
    have f2:=R.fw i k
    generalize (M.to k fun l=>M.mul (A0 i l) (A l j))=X at f1
    generalize (M.to k fun l=>M.mul (A0 i l) (A l k))=Y at f2
    rw [f1,f2,M.add_mul,M.add_mul,← M.mul_assoc]
    rw [M.add_assoc,M.add_assoc]
    congr 1
    rw [M.add_comm (M.mul (M.mul (A0 i k) r) (A k j))]
  · rw [to_succ]
    have e1:(M.to k fun l=>M.mul (ledA M A k r i l) (A0 l j))=M.add (M.to k fun l=>M.mul (A i l) (A0 l j)) (M.mul (M.mul (A i k) r) (M.to k fun l=>M.mul (A k l) (A0 l j))):=by
      rw [mul_to,← to_add]
      refine M.sum_congr fun l _=>?_
      show M.mul (M.add (A i l) (M.mul (M.mul (A i k) r) (A k l))) (A0 l j)=_
      rw [M.add_mul,M.mul_assoc (M.mul (A i k) r)]
    have e2:ledA M A k r i k=M.mul (A i k) r:=by
      show M.add (A i k) (M.mul (M.mul (A i k) r) (A k k))=_
      conv=>rhs; rw [sr,M.mul_add,M.mul_one]
      rw [M.mul_assoc,M.mul_comm r]
    rw [e1,e2]
    show M.add (A i j) (M.mul (M.mul (A i k) r) (A k j))=_
    have f1:=R.bw i j
    have f2:=R.bw k j
    generalize (M.to k fun l=>M.mul (A i l) (A0 l j))=X at f1
    generalize (M.to k fun l=>M.mul (A k l) (A0 l j))=Y at f2
    rw [f1,f2,M.mul_add]
    rw [M.add_assoc,M.add_assoc]
    congr 2
    exact M.add_comm _ _
theorem stage_rec {A0:Mat S}:∀ {k:Nat} {A:Mat S},stageA M A0 k=some A→Rec M A0 k A
  | 0,A,h=>by
    cases h
    exact ⟨fun i j=>(M.add_zero _).symm,fun i j=>(M.add_zero _).symm⟩
  | k + 1,A,h=>by
    unfold stageA at h
    cases e:stageA M A0 k with
    | none=>rw [e] at h; cases h
    | some B =>
      rw [e] at h
      cases e2:M.star (B k k) with
      | none =>
        have h:(M.star (B k k)).map (fun r=>ledA M B k r)=some A:=h
        rw [e2] at h; cases h
      | some r =>
        have h:(M.star (B k k)).map (fun r=>ledA M B k r)=some A:=h
        rw [e2] at h
        cases h
        exact (stage_rec e).led M e2
theorem tab_fw {A0 A:Mat S} {n:Nat} (h:stageA M A0 n=some A) {i j:Nat} (hj:j < n):tabA M A i j=M.add (M.when (i=j) M.one) (M.to n fun l=>M.mul (A0 i l) (tabA M A l j)):=by
  have R:=stage_rec M h
  rw [tabA_eq]
  congr 1
  have e:(M.to n fun l=>M.mul (A0 i l) (tabA M A l j))=M.add (M.to n fun l=>M.when (l=j) (A0 i l)) (M.to n fun l=>M.mul (A0 i l) (A l j)):=by
    rw [← to_add]
    refine M.sum_congr fun l _=>?_
    rw [tabA_eq,M.mul_add,M.mul_when,M.mul_one]
  rw [e,KSR.to,M.sum_range_one hj]
  exact R.fw i j
def edgeM (es:List (Edge S)):Mat S:=fun i j=>stepsV M es i 1 j
theorem edgeM_eq (es:List (Edge S)) (i j:Nat):edgeM M es i j=M.sum (es.map fun e=>M.when (e.f=i) (M.when (e.t=j) e.c)):=by
  show stepV M es (unitV M i) j=_
  unfold stepV unitV
  refine M.sum_congr fun e _=>?_
  rw [M.when_mul,M.one_mul,M.when_when]
theorem fw_edges (es:List (Edge S)) {n:Nat} (he:∀ e∈es,e.t < n) (i:Nat) (f:Nat→S):(M.to n fun l=>M.mul (edgeM M es i l) (f l))=M.sum (es.map fun e=>M.when (e.f=i) (M.mul e.c (f e.t))):=by
  have e1:∀ l,M.mul (edgeM M es i l) (f l)=M.sum (es.map fun e=>M.when (l=e.t) (M.when (e.f=i) (M.mul e.c (f l)))):=fun l=>by
    rw [edgeM_eq,M.sum_mul,List.map_map]
    refine M.sum_congr fun e _=>?_
    show M.mul (M.when (e.f=i) (M.when (e.t=l) e.c)) (f l)=_
    rw [M.when_mul,M.when_mul,M.when_when]
    unfold KSR.when
    by_cases c:e.t=l
    · rw [if_pos c,if_pos c.symm]
    · rw [if_neg c,if_neg (Ne.symm c)]
  unfold KSR.to
  rw [M.sum_congr fun l _=>e1 l,M.sum_swap]
  refine M.sum_congr fun e hm=>?_
  exact M.sum_range_one (he e hm) (fun l=>M.when (e.f=i) (M.mul e.c (f l)))
end
end Ws
namespace Ws
theorem stage_none {S : Type} (M : KSR S) {A0 : Mat S} : ∀ {n k : Nat}, k ≤ n → stageA M A0 k = none → stageA M A0 n = none
  | 0, k, h, e => by obtain rfl : k = 0 := by omega
                     exact e
  | n + 1, k, h, e => by
    by_cases c : k = n + 1
    · subst c; exact e
    · have := stage_none M (show k ≤ n by omega) e
      unfold stageA; rw [this]; rfl
theorem stage_succ {S:Type} (M:KSR S) {A0 A:Mat S} {k:Nat} {r:S} (h:stageA M A0 k=some A) (hr:M.star (A k k)=some r):stageA M A0 (k + 1)=some (ledA M A k r):=by
  unfold stageA
  rw [h]
  show (M.star (A k k)).map _=_
  rw [hr]; rfl
theorem stage_fail {S:Type} (M:KSR S) {A0 A:Mat S} {k:Nat} (h:stageA M A0 k=some A) (hr:M.star (A k k)=none):stageA M A0 (k + 1)=none:=by
  unfold stageA
  rw [h]
  show (M.star (A k k)).map _=_
  rw [hr]; rfl
end Ws
namespace Ws
open PySem
structure Frac (b:Nat) (A:Mat Cha):Prop where
  ex:∃ d:Nat→Nat,∀ i,0 < d i∧d i < 2 ^ b∧∀ j,∃ a:Nat,a < 2 ^ b∧(A i j).1 * (d i:Rat)=(a:Rat)
theorem Frac.sm {b:Nat} {A:Mat Cha} (F:Frac b A) (i j:Nat):Sm b (ofR (A i j).1):=by
  obtain ⟨d,h⟩:=F.ex
  obtain ⟨d0,d1,h⟩:=h i
  obtain ⟨a,a1,e⟩:=h j
  exact sm_of_mul d0 e a1 d1
theorem Frac.led {b k:Nat} {A:Mat Cha} {r:Cha} (F:Frac b A) (hr:ksChances.star (A k k)=some r):Frac (2 * b + 1) (ledA ksChances A k r):=by
  obtain ⟨d,hd⟩:=F.ex
  have lt:(A k k).1 < 1:=by
    by_cases c:(A k k).1 < 1
    · exact c
    · rw [chances_ge _ c] at hr; cases hr
  rw [chances_lt _ lt] at hr
  have er:r.1=(1 - (A k k).1)⁻¹:=by cases hr; rfl
  obtain ⟨k0,k1,hk⟩:=hd k
  obtain ⟨akk,akk1,ekk⟩:=hk k
  have dk0:(0:Rat) < (d k:Rat):=by exact_mod_cast k0
  have akd:akk < d k:=by
    have:(akk:Rat) < (d k:Rat):=by
      rw [← ekk]
      have:=Rat.mul_lt_mul_of_pos_right lt dk0
      rw [Rat.one_mul] at this; exact this
    exact_mod_cast this
  have pw:(2:Nat) ^ (2 * b + 1)=2 ^ b * 2 ^ b * 2:=by rw [Nat.pow_succ,Nat.two_mul,Nat.pow_add]
  have hr2:r.1 * ((d k - akk:Nat):Rat)=(d k:Rat):=by
    rw [er]
    have e1:((d k - akk:Nat):Rat)=(1 - (A k k).1) * (d k:Rat):=by
      have:((d k - akk:Nat):Rat) + (akk:Rat)=(d k:Rat):=by
        rw [← Rat.natCast_add,Nat.sub_add_cancel (Nat.le_of_lt akd)]
      rw [← ekk] at this
      grind
    rw [e1,← Rat.mul_assoc,Rat.inv_mul_cancel _ (by grind),Rat.one_mul]
  refine ⟨fun i=>d i * (d k - akk),fun i=>⟨Nat.mul_pos (hd i).1 (by omega),?_,fun j=>?_⟩⟩
  · rw [pw]
    have:d i * (d k - akk) < 2 ^ b * 2 ^ b:=Nat.mul_lt_mul'' (hd i).2.1 (by omega)
    show d i * (d k - akk) < _
    omega
  · obtain ⟨aij,aij1,eij⟩:=(hd i).2.2 j
    obtain ⟨aik,aik1,eik⟩:=(hd i).2.2 k
    obtain ⟨akj,akj1,ekj⟩:=hk j
    refine ⟨aij * (d k - akk) + aik * akj,?_,?_⟩
    · rw [pw]
      have a1:aij * (d k - akk) < 2 ^ b * 2 ^ b:=Nat.mul_lt_mul'' aij1 (by omega)
      have a2:aik * akj < 2 ^ b * 2 ^ b:=Nat.mul_lt_mul'' aik1 akj1
      omega
    · show ((A i j).1 + (A i k).1 * r.1 * (A k j).1) * _=_
      rw [Rat.natCast_add,Rat.natCast_mul,Rat.natCast_mul,Rat.natCast_mul,← eij,← eik,← ekj]
      generalize ((d k - akk:Nat):Rat)=x at hr2
      have e2:(A i k).1 * r.1 * (A k j).1 * ((d i:Rat) * x)=(A i k).1 * (d i:Rat) * ((A k j).1 * (r.1 * x)):=by grind
      rw [hr2] at e2
      rw [Rat.add_mul,e2]
      generalize (A i j).1=u
      generalize (d i:Rat)=v
      rw [← Rat.mul_assoc]
def bC:Nat→Nat
  | 0=>200
  | k + 1=>2 * bC k + 1
def bP:Nat→Nat
  | 0=>520
  | k + 1=>3 * bP k + 120
theorem bC_le:∀ {k:Nat},k≤8→bC k≤60000:=by decide
theorem bP_le:∀ {k:Nat},k≤7→bP k≤2000000:=by decide
theorem stage_frac {A0:Mat Cha} (h0:Frac 200 A0):∀ {k:Nat} {A:Mat Cha},stageA ksChances A0 k=some A→Frac (bC k) A
  | 0,A,h=>by cases h; exact h0
  | k + 1,A,h=>by
    unfold stageA at h
    cases e:stageA ksChances A0 k with
    | none=>rw [e] at h; cases h
    | some B =>
      rw [e] at h
      have h:(ksChances.star (B k k)).map (fun r=>ledA ksChances B k r)=some A:=h
      cases e2:ksChances.star (B k k) with
      | none=>rw [e2] at h; cases h
      | some r =>
        rw [e2] at h
        cases h
        exact (stage_frac h0 e).led e2
theorem stage_plain {kd:Kd} {ok:KdOk kd} (hc:kd≠.chances) {A0:Mat (Car kd)} (h0:∀ i j,Sm 520 (enc kd (A0 i j))):∀ {k:Nat} {A:Mat (Car kd)},stageA (ks kd ok) A0 k=some A→∀ i j,Sm (bP k) (enc kd (A i j))
  | 0,A,h=>by cases h; exact h0
  | k + 1,A,h=>by
    unfold stageA at h
    cases e:stageA (ks kd ok) A0 k with
    | none=>rw [e] at h; cases h
    | some B =>
      rw [e] at h
      have h:((ks kd ok).star (B k k)).map (fun r=>ledA (ks kd ok) B k r)=some A:=h
      cases e2:(ks kd ok).star (B k k) with
      | none=>rw [e2] at h; cases h
      | some r =>
        rw [e2] at h
        cases h
        intro i j
        have hB:=stage_plain hc h0 e
        have hr:=sm_star (hB k k) e2
        have hm:=sm_mul (ok:=ok) (sm_mul (ok:=ok) (hB i k) hr) (hB k j)
        exact (sm_add2 (ok:=ok) hc ((hB i j).mono (show bP k≤3 * bP k + 54 by omega)) (hm.mono (by omega))).mono (by show _≤3 * bP k + 120; omega)
def TFits (kd:Kd) (ok:KdOk kd) (es:List (Edge (Car kd))) (n:Nat):Prop:=∀ k,k≤n→∀ A,stageA (ks kd ok) (edgeM (ks kd ok) es) k=some A→∀ i j,Sm (if kd=.chances then 60000 else 2000000) (enc kd (A i j))
theorem TFits.sm {kd:Kd} {ok:KdOk kd} {es:List (Edge (Car kd))} {n:Nat} (F:TFits kd ok es n) {k:Nat} (hk:k≤n) {A:Mat (Car kd)} (h:stageA (ks kd ok) (edgeM (ks kd ok) es) k=some A) (i j:Nat):Sm 2000000 (enc kd (A i j)) :=
  (F k hk A h i j).mono (by split <;> decide)
theorem sub_edge {es:List (Edge (Car .chances))} (p:Nat):shSum (frm (p:Int) (es.map (Edge.road .chances)))=((es.filter fun e=>decide (e.f=p)).map fun e=>e.c.1).sum:=by
  unfold shSum frm
  rw [List.filter_eq_self.mpr (fun w hw=>by
    obtain ⟨r,hr,rfl⟩:=List.mem_map.mp hw
    obtain ⟨e,_,rfl⟩:=List.mem_map.mp (List.mem_filter.mp hr).1
    exact ofR_share e.c.1)]
  rw [List.filter_map,List.map_map,List.map_map]
  have e1:(fun r:Road=>decide (r.f=(p:Int))) ∘ Edge.road .chances=fun e:Edge (Car .chances)=>decide (e.f=p):=by
    funext e
    show decide (((e.f:Nat):Int)=(p:Int))=_
    exact decide_eq_decide.mpr ⟨fun h=>by omega,fun h=>by omega⟩
  rw [e1]
  congr 1
  refine List.map_congr_left fun e _=>?_
  exact toR_ofR e.c.1
theorem sum_cha:∀ (l:List (Edge (Car .chances))) (g:Edge (Car .chances)→Cha),(ksChances.sum (l.map g)).1=(l.map fun e=>(g e).1).sum
  | [],_=>rfl
  | e :: l,g=>by
    show (g e).1 + (ksChances.sum (l.map g)).1=_
    rw [sum_cha l g,List.map_cons,List.sum_cons]
theorem when_le (p:Prop) [Decidable p] (x:Cha):(ksChances.when p x).1≤x.1:=by
  unfold KSR.when
  by_cases c:p
  · rw [if_pos c]; exact Rat.le_refl
  · rw [if_neg c]; exact x.2
theorem when_no {p:Prop} [Decidable p] (h:¬ p) (x:Cha):(ksChances.when p x).1=0:=by
  unfold KSR.when
  rw [if_neg h]; rfl
theorem sum_le_filter (p t:Nat):∀ l:List (Edge (Car .chances)),(l.map fun e=>(ksChances.when (e.f=p) (ksChances.when (e.t=t) e.c)).1).sum≤((l.filter fun e=>decide (e.f=p)).map fun e=>e.c.1).sum
  | []=>Rat.le_refl
  | e :: l=>by
    have ih:=sum_le_filter p t l
    have c0:(0:Rat)≤e.c.1:=e.c.2
    rw [List.map_cons,List.sum_cons]
    by_cases h:e.f=p
    · rw [List.filter_cons_of_pos (by simpa using h),List.map_cons,List.sum_cons]
      have:(ksChances.when (e.f=p) (ksChances.when (e.t=t) e.c)).1≤e.c.1:=Rat.le_trans (when_le _ _) (when_le _ _)
      grind
    · rw [List.filter_cons_of_neg (by simpa using h)]
      have:(ksChances.when (e.f=p) (ksChances.when (e.t=t) e.c)).1=0:=when_no h _
      grind
theorem frac_edges {es:List (Edge (Car .chances))} {n:Nat} (G:Graph .chances n es):Frac 200 (edgeM ksChances es):=by
  obtain ⟨L,L0,L1,hL⟩:=G.den rfl
  obtain ⟨ps,hov,hps⟩:=overP_of hL
  have p200:(2:Nat) ^ 192≤2 ^ 200:=Nat.pow_le_pow_right (by decide) (by decide)
  refine ⟨fun _=>L,fun i=>⟨L0,by show L < _; omega,fun j=>?_⟩⟩
  obtain ⟨N,n1,n2⟩:=over_steps hov i 1 j
  rw [Nat.pow_one] at n2
  refine ⟨N,?_,n2⟩
  have le1:(edgeM ksChances es i j).1≤1:=by
    have e2:(edgeM ksChances es i j).1=(es.map fun e=>(ksChances.when (e.f=i) (ksChances.when (e.t=j) e.c)).1).sum:=(congrArg Subtype.val (edgeM_eq ksChances es i j)).trans (sum_cha es _)
    have a1:=sum_le_filter i j es
    have a2:=G.sub rfl i
    rw [sub_edge] at a2
    exact Eq.subst (motive:=fun z=>z≤1) e2.symm (Rat.le_trans a1 a2)
  have:(N:Rat)≤(L:Rat):=by
    rw [← n2]
    have L0':(0:Rat)≤(L:Rat):=by exact_mod_cast Nat.zero_le L
    have:=Rat.mul_le_mul_of_nonneg_right le1 L0'
    rw [Rat.one_mul] at this; exact this
  have:N≤L:=by exact_mod_cast this
  omega
theorem Graph.tfits {kd:Kd} {ok:KdOk kd} {n:Nat} {es:List (Edge (Car kd))} (G:Graph kd n es) (hl:es.length≤64) (h7:n≤7):TFits kd ok es n:=by
  intro k hk A h i j
  by_cases hc:kd=.chances
  · subst hc
    rw [if_pos rfl]
    exact ((stage_frac (frac_edges G) h).sm i j).mono (bC_le (by omega))
  · rw [if_neg hc]
    have h0:∀ i j,Sm 520 (enc kd (edgeM (ks kd ok) es i j)):=fun i j=>((fits_plain (ok:=ok) hc G.sm hl i 1).at_ 1 (Nat.le_refl _) j).mono (by decide)
    exact (stage_plain hc h0 h i j).mono (bP_le (by omega))
end Ws
namespace Ws
open PySem
section
variable {S : Type} (M : KSR S)
theorem le_refl (a:S):M.le a a:=⟨M.zero,M.add_zero a⟩
theorem le_trans {a b c:S} (h:M.le a b) (h':M.le b c):M.le a c:=by
  obtain ⟨d,rfl⟩:=h
  obtain ⟨e,rfl⟩:=h'
  exact ⟨M.add d e,(M.add_assoc _ _ _).symm⟩
theorem le_anti {a b:S} (h:M.le a b) (h':M.le b a):a=b:=by
  obtain ⟨d,e⟩:=h
  obtain ⟨d',e'⟩:=h'
  exact M.anti a b d d' e e'
theorem le_of_eq {a b:S} (h:a=b):M.le a b:=h ▸ le_refl M a
theorem zero_le (a:S):M.le M.zero a:=⟨a,M.zero_add a⟩
theorem add_le {a b c d:S} (h:M.le a b) (h':M.le c d):M.le (M.add a c) (M.add b d):=by
  obtain ⟨x,rfl⟩:=h
  obtain ⟨y,rfl⟩:=h'
  exact ⟨M.add x y,M.add4 a c x y⟩
theorem mul_le {a b c d:S} (h:M.le a b) (h':M.le c d):M.le (M.mul a c) (M.mul b d):=by
  obtain ⟨x,rfl⟩:=h
  obtain ⟨y,rfl⟩:=h'
  refine ⟨M.add (M.mul a y) (M.mul x (M.add c y)),?_⟩
  rw [M.add_mul,M.mul_add a,M.add_assoc]
theorem to_congr {n:Nat} {f g:Nat→S} (h:∀ l,l < n→f l=g l):M.to n f=M.to n g:=M.sum_congr fun l hl=>h l (List.mem_range.mp hl)
theorem to_split {n k:Nat} (hk:k < n) (f:Nat→S):M.to n f=M.add (f k) (M.to n fun l=>if l=k then M.zero else f l):=by
  have e:∀ l,f l=M.add (M.when (l=k) (f l)) (if l=k then M.zero else f l):=fun l=>by
    unfold KSR.when
    split
    · rw [M.add_zero]
    · rw [M.zero_add]
  rw [to_congr M (fun l _=>e l),to_add]
  congr 1
  exact M.sum_range_one hk f
theorem least_step {A:Mat S} {k n:Nat} {r:S} (hk:k < n) (hr:M.star (A k k)=some r) {x b y:Nat→S} (hy:y k=x k) (h:∀ i,i < n→M.le (M.add (b i) (M.to n fun l=>M.mul (A i l) (y l))) (x i)) :
    ∀ i,i < n→M.le (M.add (b i) (M.to n fun l=>M.mul (ledA M A k r i l) (if l=k then b k else y l))) (x i):=by
  have sr:r=M.add M.one (M.mul (A k k) r):=M.star_eq _ _ hr
  have hR:∀ i,M.to n (fun l=>M.mul (A i l) (y l))=M.add (M.mul (A i k) (x k)) (M.to n fun l=>if l=k then M.zero else M.mul (A i l) (y l)):=fun i=>by rw [to_split M hk,hy]
  generalize hRd:(fun i=>M.to n fun l=>if l=k then M.zero else M.mul (A i l) (y l))=R
  have hR:∀ i,M.to n (fun l=>M.mul (A i l) (y l))=M.add (M.mul (A i k) (x k)) (R i):=fun i=>by rw [hR i,← hRd]
  have hxk:M.le (M.mul r (M.add (b k) (R k))) (x k):=by
    obtain ⟨c,e⟩:=h k hk
    rw [hR k] at e
    refine M.star_ind (A k k) r _ (x k) c hr ?_
    rw [← e]
    congr 1
    rw [M.add_assoc,M.add_comm (R k),e]
  intro i hi
  have e2:M.add (b i) (M.to n fun l=>M.mul (ledA M A k r i l) (if l=k then b k else y l))=M.add (b i) (M.add (M.mul (A i k) (M.mul r (M.add (b k) (R k)))) (R i)):=by
    congr 1
    rw [to_split M hk,if_pos rfl]
    have e3:M.mul (ledA M A k r i k) (b k)=M.mul (A i k) (M.mul r (b k)):=by
      unfold ledA
      have:M.add (A i k) (M.mul (M.mul (A i k) r) (A k k))=M.mul (A i k) r:=by
        rw [M.mul_assoc,M.mul_comm r]
        conv=>rhs; rw [sr]
        rw [M.mul_add,M.mul_one]
      rw [this,M.mul_assoc]
    have e4:(M.to n fun l=>if l=k then M.zero else M.mul (ledA M A k r i l) (if l=k then b k else y l))=M.add (R i) (M.mul (A i k) (M.mul r (R k))):=by
      rw [← hRd]
      dsimp only
      rw [mul_to,mul_to,← to_add]
      refine to_congr M fun l _=>?_
      by_cases c:l=k
      · rw [if_pos c,if_pos c,if_pos c,M.mul_zero,M.mul_zero,M.add_zero]
      · rw [if_neg c,if_neg c,if_neg c,if_neg c]
        unfold ledA
        rw [M.add_mul,M.mul_assoc,M.mul_assoc]
    rw [e3,e4,M.mul_add r,M.mul_add,M.add_comm (R i),M.add_assoc]
  rw [e2]
  refine le_trans M ?_ (h i hi)
  rw [hR i]
  exact add_le M (le_refl M _) (add_le M (mul_le M (le_refl M _) hxk) (le_refl M _))
theorem least_stage {A0:Mat S} {n:Nat} {x b:Nat→S} (h:∀ i,i < n→M.le (M.add (b i) (M.to n fun l=>M.mul (A0 i l) (x l))) (x i)) :
    ∀ {k:Nat} {A:Mat S},k≤n→stageA M A0 k=some A→∀ i,i < n→M.le (M.add (b i) (M.to n fun l=>M.mul (A i l) (if l < k then b l else x l))) (x i)
  | 0,A,_,e=>by
    obtain rfl:A0=A:=Option.some.inj e
    intro i hi
    rw [to_congr M (g:=fun l=>M.mul (A0 i l) (x l)) fun l _=>by rw [if_neg (Nat.not_lt_zero l)]]
    exact h i hi
  | k + 1,A,hk,e=>by
    unfold stageA at e
    cases e1:stageA M A0 k with
    | none=>rw [e1] at e; cases e
    | some B =>
      rw [e1] at e
      cases e2:M.star (B k k) with
      | none=>simp [e2] at e
      | some r =>
        simp [e2] at e
        subst e
        have ih:=least_stage h (show k≤n by omega) e1
        intro i hi
        have z:=least_step M (show k < n by omega) e2 (y:=fun l=>if l < k then b l else x l) (if_neg (Nat.lt_irrefl k)) ih i hi
        rw [to_congr M (g:=fun l=>M.mul (ledA M B k r i l) (if l=k then b k else if l < k then b l else x l)) fun l _=>by
          by_cases c:l=k
          · subst c; rw [if_pos (Nat.lt_succ_self l),if_pos rfl]
          · rw [if_neg c]
            by_cases d:l < k
            · rw [if_pos d,if_pos (by omega)]
            · rw [if_neg d,if_neg (by omega)]]
        exact z
theorem tab_least {A0 A:Mat S} {n:Nat} (e:stageA M A0 n=some A) {x b:Nat→S} (h:∀ i,i < n→M.le (M.add (b i) (M.to n fun l=>M.mul (A0 i l) (x l))) (x i)) {i:Nat} (hi:i < n):M.le (M.to n fun l=>M.mul (tabA M A i l) (b l)) (x i):=by
  have z:=least_stage M h (Nat.le_refl n) e i hi
  refine le_trans M (le_of_eq M ?_) z
  rw [to_congr M (g:=fun l=>M.add (M.when (l=i) (b l)) (M.mul (A i l) (if l < n then b l else x l))) fun l hl=>by
    rw [tabA_eq,M.add_mul,M.when_mul,M.one_mul,if_pos hl]
    congr 1
    unfold KSR.when
    by_cases c:l=i
    · rw [if_pos c,if_pos c.symm]
    · rw [if_neg c,if_neg (Ne.symm c)],to_add]
  congr 1
  exact M.sum_range_one hi b
theorem tab_least1 {A0 A X:Mat S} {n:Nat} (e:stageA M A0 n=some A) {j:Nat} (hj:j < n) (h:∀ i,i < n→M.le (M.add (M.when (i=j) M.one) (M.to n fun l=>M.mul (A0 i l) (X l j))) (X i j)) {i:Nat} (hi:i < n):M.le (tabA M A i j) (X i j):=by
  have z:=tab_least M e (x:=fun l=>X l j) (b:=fun l=>M.when (l=j) M.one) h hi
  refine le_trans M (le_of_eq M ?_) z
  rw [to_congr M (g:=fun l=>M.when (l=j) (tabA M A i l)) fun l _=>by rw [M.mul_when,M.mul_one]]
  exact (M.sum_range_one hj fun l=>tabA M A i l).symm
end
end Ws
namespace Ws
open PySem
theorem star_def {kd:Kd} {ok:KdOk kd} {a x c:Car kd} (e:(ks kd ok).add ((ks kd ok).add (ks kd ok).one ((ks kd ok).mul a x)) c=x):∃ s,(ks kd ok).star a=some s:=by
  cases h:(ks kd ok).star a with
  | some s=>exact ⟨s,rfl⟩
  | none =>
    exfalso
    cases kd with
    | chances =>
      have nl:¬ a.1 < 1:=fun z=>by have h:ksChances.star a=none:=h; rw [chances_lt a z] at h; cases h
      have e:1 + a.1 * x.1 + c.1=x.1:=congrArg Subtype.val e
      have h1:=x.2
      have h2:=c.2
      have h3:(0:Rat)≤(a.1 - 1) * x.1:=rmul_nonneg (by grind) x.2
      grind
    | _=>cases h
theorem stage_def {kd:Kd} {ok:KdOk kd} {A0 X:Mat (Car kd)} {n:Nat} (h:∀ j,j < n→∀ i,i < n→(ks kd ok).le ((ks kd ok).add ((ks kd ok).when (i=j) (ks kd ok).one) ((ks kd ok).to n fun l=>(ks kd ok).mul (A0 i l) (X l j))) (X i j)) :
    ∀ {k:Nat},k≤n→∃ A,stageA (ks kd ok) A0 k=some A
  | 0,_=>⟨A0,rfl⟩
  | k + 1,hk=>by
    obtain ⟨A,hA⟩:=stage_def h (show k≤n by omega)
    have hkn:k < n:=by omega
    obtain ⟨c,e⟩:=least_stage (ks kd ok) (x:=fun l=>X l k) (b:=fun l=>(ks kd ok).when (l=k) (ks kd ok).one) (h k hkn) (show k≤n by omega) hA k hkn
    rw [to_split (ks kd ok) hkn] at e
    have z:∃ s,(ks kd ok).star (A k k)=some s:=by
      refine star_def (x:=X k k) (c:=(ks kd ok).add ((ks kd ok).to n fun l=>if l=k then (ks kd ok).zero else (ks kd ok).mul (A k l) (if l < k then (ks kd ok).when (l=k) (ks kd ok).one else X l k)) c) ?_
      refine Eq.trans ?_ e
      rw [if_neg (Nat.lt_irrefl k)]
      rw [show (ks kd ok).when (k=k) (ks kd ok).one=(ks kd ok).one from if_pos rfl]
      rw [← (ks kd ok).add_assoc,← (ks kd ok).add_assoc]
    obtain ⟨s,hs⟩:=z
    exact ⟨_,stage_succ (ks kd ok) hA hs⟩
section
variable {S : Type} (M : KSR S)
theorem sum_perm {l l':List S} (h:l.Perm l'):M.sum l=M.sum l':=by
  induction h with
  | nil=>rfl
  | cons x _ ih=>exact congrArg (M.add x) ih
  | swap x y l=>show M.add y (M.add x _)=M.add x (M.add y _); rw [← M.add_assoc,M.add_comm y,M.add_assoc]
  | trans _ _ a b=>exact a.trans b
theorem to_perm {n:Nat} {row:List Nat} (h:row.Perm (List.range n)) (f:Nat→S):(M.to n fun l=>f (row.getD l 0))=M.to n f:=by
  have hl:row.length=n:=by rw [h.length_eq,List.length_range]
  have e:(List.range n).map (fun l=>f (row.getD l 0))=row.map f:=by
    apply List.ext_getElem
    · rw [List.length_map,List.length_map,List.length_range,hl]
    · intro i h1 h2
      rw [List.length_map] at h2
      rw [List.getElem_map,List.getElem_map,List.getElem_range,List.getD_eq_getElem?_getD,List.getElem?_eq_getElem h2]; rfl
  show M.sum _=_
  rw [e]
  exact sum_perm M (h.map f)
end
theorem row_lt {n:Nat} {row:List Nat} (h:row.Perm (List.range n)) {i:Nat} (hi:i < n):row.getD i 0 < n:=by
  have hl:row.length=n:=by rw [h.length_eq,List.length_range]
  have m:row.getD i 0∈row:=by
    rw [List.getD_eq_getElem?_getD,List.getElem?_eq_getElem (show i < row.length by omega)]
    exact List.getElem_mem _
  exact List.mem_range.mp (h.mem_iff.mp m)
theorem row_inj {n:Nat} {row:List Nat} (h:row.Perm (List.range n)) {i j:Nat} (hi:i < n) (hj:j < n) (e:row.getD i 0=row.getD j 0):i=j:=by
  have hl:row.length=n:=by rw [h.length_eq,List.length_range]
  have nd:row.Nodup:=h.nodup_iff.mpr List.nodup_range
  rw [List.getD_eq_getElem?_getD,List.getD_eq_getElem?_getD,List.getElem?_eq_getElem (show i < row.length by omega),List.getElem?_eq_getElem (show j < row.length by omega)] at e
  exact (List.getElem?_inj (show i < row.length by omega) nd).mp (by rw [List.getElem?_eq_getElem (show i < row.length by omega),List.getElem?_eq_getElem (show j < row.length by omega)]; exact congrArg some e)
theorem named_half {kd:Kd} {ok:KdOk kd} {n:Nat} {row:List Nat} (hp:row.Perm (List.range n)) {A0 B0 B:Mat (Car kd)} (hAB:∀ i j,i < n→j < n→B0 (row.getD i 0) (row.getD j 0)=A0 i j) (hB:stageA (ks kd ok) B0 n=some B) :
    ∃ A,stageA (ks kd ok) A0 n=some A∧∀ i j,i < n→j < n→(ks kd ok).le (tabA (ks kd ok) A i j) (tabA (ks kd ok) B (row.getD i 0) (row.getD j 0)):=by
  have key:∀ j,j < n→∀ i,i < n→(ks kd ok).le ((ks kd ok).add ((ks kd ok).when (i=j) (ks kd ok).one) ((ks kd ok).to n fun l=>(ks kd ok).mul (A0 i l) (tabA (ks kd ok) B (row.getD l 0) (row.getD j 0)))) (tabA (ks kd ok) B (row.getD i 0) (row.getD j 0)):=fun j hj i hi=>by
    refine le_of_eq _ ?_
    rw [tab_fw (ks kd ok) hB (row_lt hp hj)]
    congr 1
    · unfold KSR.when
      by_cases c:i=j
      · rw [if_pos c,if_pos (by rw [c])]
      · rw [if_neg c,if_neg (fun z=>c (row_inj hp hi hj z))]
    · rw [← to_perm (ks kd ok) hp fun l=>(ks kd ok).mul (B0 (row.getD i 0) l) (tabA (ks kd ok) B l (row.getD j 0))]
      exact to_congr (ks kd ok) fun l hl=>by rw [hAB i l hi hl]
  obtain ⟨A,hA⟩:=stage_def (X:=fun i j=>tabA (ks kd ok) B (row.getD i 0) (row.getD j 0)) key (Nat.le_refl n)
  exact ⟨A,hA,fun i j hi hj=>tab_least1 (ks kd ok) hA hj (X:=fun i j=>tabA (ks kd ok) B (row.getD i 0) (row.getD j 0)) (key j hj) hi⟩
theorem idx_at {n:Nat} {row:List Nat} (h:row.Perm (List.range n)) {k:Nat} (hk:k < n):row.idxOf k < n∧row.getD (row.idxOf k) 0=k:=by
  have hl:row.length=n:=by rw [h.length_eq,List.length_range]
  have m:k∈row:=h.mem_iff.mpr (List.mem_range.mpr hk)
  have lt:row.idxOf k < row.length:=List.idxOf_lt_length_iff.mpr m
  refine ⟨by omega,?_⟩
  rw [List.getD_eq_getElem?_getD,List.getElem?_eq_getElem lt]
  exact List.getElem_idxOf lt
theorem back_at {n:Nat} {row:List Nat} {k:Nat} (hk:k < n):((List.range n).map fun k=>row.idxOf k).getD k 0=row.idxOf k:=by
  rw [List.getD_eq_getElem?_getD,List.getElem?_map,List.getElem?_range hk]; rfl
theorem back_perm {n:Nat} {row:List Nat} (h:row.Perm (List.range n)):((List.range n).map fun k=>row.idxOf k).Perm (List.range n):=by
  have inj:∀ {a b:Nat},a < n→b < n→row.idxOf a=row.idxOf b→a=b:=fun ha hb e=>by rw [← (idx_at h ha).2,← (idx_at h hb).2,e]
  have nd:((List.range n).map fun k=>row.idxOf k).Nodup:=by
    refine List.pairwise_map.mpr ?_
    refine List.Pairwise.imp_of_mem (fun {a b} ha hb hne e=>hne (inj (List.mem_range.mp ha) (List.mem_range.mp hb) e)) (List.nodup_range (n:=n))
  refine (List.perm_ext_iff_of_nodup nd List.nodup_range).mpr fun x=>⟨fun hx=>?_,fun hx=>?_⟩
  · obtain ⟨k,hk,rfl⟩:=List.mem_map.mp hx
    exact List.mem_range.mpr (idx_at h (List.mem_range.mp hk)).1
  · have hx:=List.mem_range.mp hx
    refine List.mem_map.mpr ⟨row.getD x 0,List.mem_range.mpr (row_lt h hx),?_⟩
    have z:=idx_at h (row_lt h hx)
    exact row_inj h z.1 hx z.2
theorem named_none {kd:Kd} {ok:KdOk kd} {n:Nat} {row:List Nat} (hp:row.Perm (List.range n)) {A0 B0:Mat (Car kd)} (hAB:∀ i j,i < n→j < n→B0 (row.getD i 0) (row.getD j 0)=A0 i j):stageA (ks kd ok) B0 n=none ↔ stageA (ks kd ok) A0 n=none:=by
  have hBA:∀ i j,i < n→j < n→A0 (((List.range n).map fun k=>row.idxOf k).getD i 0) (((List.range n).map fun k=>row.idxOf k).getD j 0)=B0 i j:=fun i j hi hj=>by
    rw [back_at hi,back_at hj,← hAB _ _ (idx_at hp hi).1 (idx_at hp hj).1,(idx_at hp hi).2,(idx_at hp hj).2]
  constructor
  · intro h
    cases e:stageA (ks kd ok) A0 n with
    | none=>rfl
    | some A =>
      obtain ⟨B,hB,_⟩:=named_half (back_perm hp) hBA e
      rw [h] at hB; cases hB
  · intro h
    cases e:stageA (ks kd ok) B0 n with
    | none=>rfl
    | some B =>
      obtain ⟨A,hA,_⟩:=named_half hp hAB e
      rw [h] at hA; cases hA
theorem named_eq {kd:Kd} {ok:KdOk kd} {n:Nat} {row:List Nat} (hp:row.Perm (List.range n)) {A0 B0 A B:Mat (Car kd)} (hAB:∀ i j,i < n→j < n→B0 (row.getD i 0) (row.getD j 0)=A0 i j) (hA:stageA (ks kd ok) A0 n=some A) (hB:stageA (ks kd ok) B0 n=some B) {i j:Nat} (hi:i < n) (hj:j < n) :
    tabA (ks kd ok) B (row.getD i 0) (row.getD j 0)=tabA (ks kd ok) A i j:=by
  have hBA:∀ i j,i < n→j < n→A0 (((List.range n).map fun k=>row.idxOf k).getD i 0) (((List.range n).map fun k=>row.idxOf k).getD j 0)=B0 i j:=fun i j hi hj=>by
    rw [back_at hi,back_at hj,← hAB _ _ (idx_at hp hi).1 (idx_at hp hj).1,(idx_at hp hi).2,(idx_at hp hj).2]
  obtain ⟨A',hA',l1⟩:=named_half hp hAB hB
  rw [hA] at hA'
  obtain rfl:=Option.some.inj hA'
  obtain ⟨B',hB',l2⟩:=named_half (back_perm hp) hBA hA
  rw [hB] at hB'
  obtain rfl:=Option.some.inj hB'
  have z:=l2 (row.getD i 0) (row.getD j 0) (row_lt hp hi) (row_lt hp hj)
  have bi:row.idxOf (row.getD i 0)=i:=row_inj hp (idx_at hp (row_lt hp hi)).1 hi (idx_at hp (row_lt hp hi)).2
  have bj:row.idxOf (row.getD j 0)=j:=row_inj hp (idx_at hp (row_lt hp hj)).1 hj (idx_at hp (row_lt hp hj)).2
  rw [back_at (row_lt hp hi),back_at (row_lt hp hj),bi,bj] at z
  exact le_anti _ z (l1 i j hi hj)
end Ws
namespace Ws
open PySem
end Ws
namespace Ws
open PySem
section
variable {S : Type} (M : KSR S)
end
end Ws
namespace Ws
open PySem
section
variable {S : Type} (M : KSR S)
end
end Ws
namespace Ws
open PySem
end Ws
namespace Ws
open PySem
def lf (p i:Nat):Nat:=if i < p then i else i + 1
def prow (p m:Nat):List Nat:=p :: (List.range m).map (lf p)
theorem lf_ne (p i:Nat):lf p i≠p:=by unfold lf; split <;> omega
theorem lf_lt {p i m:Nat} (hi:i < m):lf p i < m + 1:=by unfold lf; split <;> omega
theorem lf_inj {p i j:Nat} (h:lf p i=lf p j):i=j:=by unfold lf at h; split at h <;> split at h <;> omega
theorem lf_onto {p x m:Nat} (hp:p < m + 1) (h:x < m + 1) (ne:x≠p):∃ i,i < m∧lf p i=x:=by
  by_cases c:x < p
  · exact ⟨x,by omega,if_pos c⟩
  · exact ⟨x - 1,by omega,by unfold lf; rw [if_neg (by omega)]; omega⟩
theorem prow_perm {p m:Nat} (hp:p < m + 1):(prow p m).Perm (List.range (m + 1)):=by
  have nd:(prow p m).Nodup:=by
    refine List.nodup_cons.mpr ⟨fun h=>?_,?_⟩
    · obtain ⟨i,_,e⟩:=List.mem_map.mp h
      exact lf_ne p i e
    · refine List.pairwise_map.mpr ?_
      exact List.Pairwise.imp (fun {a b} hne e=>hne (lf_inj e)) (List.nodup_range (n:=m))
  refine (List.perm_ext_iff_of_nodup nd List.nodup_range).mpr fun x=>⟨fun hx=>?_,fun hx=>?_⟩
  · rcases List.mem_cons.mp hx with rfl | hx
    · exact List.mem_range.mpr hp
    · obtain ⟨i,hi,rfl⟩:=List.mem_map.mp hx
      exact List.mem_range.mpr (lf_lt (List.mem_range.mp hi))
  · by_cases c:x=p
    · rw [c]; exact List.mem_cons_self
    · obtain ⟨i,hi,rfl⟩:=lf_onto hp (List.mem_range.mp hx) c
      exact List.mem_cons_of_mem _ (List.mem_map.mpr ⟨i,List.mem_range.mpr hi,rfl⟩)
theorem prow_succ {p m i:Nat} (hi:i < m):(prow p m).getD (i + 1) 0=lf p i:=by
  unfold prow
  rw [List.getD_eq_getElem?_getD,List.getElem?_cons_succ,List.getElem?_map,List.getElem?_range hi]; rfl
section
variable {S : Type} (M : KSR S)
theorem stage_rest {B0 S0:Mat S} {m:Nat} {r:S} (hr:M.star (B0 0 0)=some r) (hS:∀ i j,i < m→j < m→S0 i j=ledA M B0 0 r (i + 1) (j + 1)):∀ k,k≤m →
    (stageA M S0 k=none∧stageA M B0 (k + 1)=none)∨∃ A B,stageA M S0 k=some A∧stageA M B0 (k + 1)=some B∧∀ i j,i < m→j < m→A i j=B (i + 1) (j + 1)
  | 0,_=>.inr ⟨S0,ledA M B0 0 r,rfl,stage_succ M rfl hr,hS⟩
  | k + 1,hk=>by
    rcases stage_rest hr hS k (by omega) with ⟨a,b⟩ | ⟨A,B,a,b,e⟩
    · exact .inl ⟨stage_none M (Nat.le_succ k) a,stage_none M (Nat.le_succ _) b⟩
    · have ekk:=e k k (by omega) (by omega)
      cases h:M.star (B (k + 1) (k + 1)) with
      | none=>exact .inl ⟨stage_fail M a (by rw [ekk]; exact h),stage_fail M b h⟩
      | some q =>
        refine .inr ⟨_,_,stage_succ M a (by rw [ekk]; exact h),stage_succ M b h,fun i j hi hj=>?_⟩
        show M.add (A i j) (M.mul (M.mul (A i k) q) (A k j))=M.add (B (i + 1) (j + 1)) (M.mul (M.mul (B (i + 1) (k + 1)) q) (B (k + 1) (j + 1)))
        rw [e i j hi hj,e i k hi (by omega),e k j (by omega) hj]
theorem tab_rest {A B:Mat S} {m i j:Nat} (e:∀ i j,i < m→j < m→A i j=B (i + 1) (j + 1)) (hi:i < m) (hj:j < m):tabA M A i j=tabA M B (i + 1) (j + 1):=by
  unfold tabA
  rw [e i j hi hj]
  by_cases c:i=j
  · rw [if_pos c,if_pos (by omega)]
  · rw [if_neg c,if_neg (by omega)]
theorem once {A:Mat S} (i j:Nat):∀ (l:List (Edge S)),(l.map fun e=>(e.f,e.t)).Nodup→(∀ e∈l,e.c=A e.f e.t) →
    M.sum (l.map fun e=>M.when (e.f=i) (M.when (e.t=j) e.c))=M.when ((i,j)∈l.map fun e=>(e.f,e.t)) (A i j)
  | [],_,_=>by unfold KSR.when; rw [if_neg (by simp)]; rfl
  | e :: l,hn,hc=>by
    rw [List.map_cons] at hn
    obtain ⟨h1,h2⟩:=List.nodup_cons.mp hn
    have ih:=once i j l h2 fun x hx=>hc x (List.mem_cons_of_mem _ hx)
    rw [List.map_cons]
    show M.add _ (M.sum _)=_
    rw [ih,List.map_cons]
    by_cases c:(e.f,e.t)=(i,j)
    · have c1:e.f=i:=congrArg Prod.fst c
      have c2:e.t=j:=congrArg Prod.snd c
      rw [c] at h1
      unfold KSR.when
      rw [if_pos c1,if_pos c2,if_neg h1,if_pos (by rw [← c]; exact List.mem_cons_self),M.add_zero,hc e List.mem_cons_self,c1,c2]
    · have z:M.when (e.f=i) (M.when (e.t=j) e.c)=M.zero:=by
        unfold KSR.when
        by_cases c1:e.f=i
        · rw [if_pos c1,if_neg (fun c2=>c (by rw [c1,c2]))]
        · rw [if_neg c1]
      rw [z,M.zero_add]
      unfold KSR.when
      by_cases d:(i,j)∈l.map fun e=>(e.f,e.t)
      · rw [if_pos d,if_pos (List.mem_cons_of_mem _ d)]
      · rw [if_neg d,if_neg (fun z=>(List.mem_cons.mp z).elim (fun y=>c y.symm) d)]
end
end Ws
namespace Ws
open PySem
section
variable {kd : Kd} (ok : KdOk kd)
def rowE (A:Mat (Car kd)) (i:Nat):Nat→List (Edge (Car kd))
  | 0=>[]
  | k + 1=>rowE A i k ++ if enc kd (A i k)=enc kd (ks kd ok).zero then [] else [⟨i,k,A i k⟩]
def matE (A:Mat (Car kd)) (m:Nat):Nat→List (Edge (Car kd))
  | 0=>[]
  | k + 1=>matE A m k ++ rowE ok A k m
theorem rowE_mem {A:Mat (Car kd)} {i:Nat}:∀ {k:Nat} {e:Edge (Car kd)},e∈rowE ok A i k→e.f=i∧e.t < k∧e.c=A i e.t
  | k + 1,e,h=>by
    rcases List.mem_append.mp h with h | h
    · obtain ⟨a,b,c⟩:=rowE_mem h
      exact ⟨a,by omega,c⟩
    · split at h
      · cases h
      · rw [List.mem_singleton.mp h]; exact ⟨rfl,Nat.lt_succ_self k,rfl⟩
theorem matE_mem {A:Mat (Car kd)} {m:Nat}:∀ {k:Nat} {e:Edge (Car kd)},e∈matE ok A m k→e.f < k∧e.t < m∧e.c=A e.f e.t
  | k + 1,e,h=>by
    rcases List.mem_append.mp h with h | h
    · obtain ⟨a,b,c⟩:=matE_mem h
      exact ⟨by omega,b,c⟩
    · obtain ⟨a,b,c⟩:=rowE_mem ok h
      exact ⟨by omega,b,by rw [c,a]⟩
theorem rowE_nd {A:Mat (Car kd)} {i:Nat}:∀ k:Nat,((rowE ok A i k).map fun e=>(e.f,e.t)).Nodup
  | 0=>List.nodup_nil
  | k + 1=>by
    show ((rowE ok A i k ++ _).map _).Nodup
    rw [List.map_append,List.nodup_append]
    refine ⟨rowE_nd k,by split <;> simp,fun x hx y hy e=>?_⟩
    obtain ⟨u,hu,rfl⟩:=List.mem_map.mp hx
    have:=(rowE_mem ok hu).2.1
    split at hy
    · cases hy
    · rw [List.map_singleton,List.mem_singleton] at hy
      rw [hy] at e
      have:u.t=k:=congrArg Prod.snd e
      omega
theorem matE_nd {A:Mat (Car kd)} {m:Nat}:∀ k:Nat,((matE ok A m k).map fun e=>(e.f,e.t)).Nodup
  | 0=>List.nodup_nil
  | k + 1=>by
    show ((matE ok A m k ++ rowE ok A k m).map _).Nodup
    rw [List.map_append,List.nodup_append]
    refine ⟨matE_nd k,rowE_nd ok m,fun x hx y hy e=>?_⟩
    obtain ⟨u,hu,rfl⟩:=List.mem_map.mp hx
    obtain ⟨v,hv,rfl⟩:=List.mem_map.mp hy
    have a:=(matE_mem ok hu).1
    have b:=(rowE_mem ok hv).1
    have:u.f=v.f:=congrArg Prod.fst e
    omega
theorem rowE_has {A:Mat (Car kd)} {i j:Nat}:∀ {k:Nat},j < k→enc kd (A i j)≠enc kd (ks kd ok).zero→(i,j)∈(rowE ok A i k).map fun e=>(e.f,e.t)
  | k + 1,hj,hne=>by
    show _∈(rowE ok A i k ++ _).map _
    rw [List.map_append]
    by_cases c:j < k
    · exact List.mem_append_left _ (rowE_has c hne)
    · obtain rfl:j=k:=by omega
      rw [if_neg hne]
      exact List.mem_append_right _ (by simp)
theorem matE_has {A:Mat (Car kd)} {m i j:Nat}:∀ {k:Nat},i < k→j < m→enc kd (A i j)≠enc kd (ks kd ok).zero→(i,j)∈(matE ok A m k).map fun e=>(e.f,e.t)
  | k + 1,hi,hj,hne=>by
    show _∈(matE ok A m k ++ rowE ok A k m).map _
    rw [List.map_append]
    by_cases c:i < k
    · exact List.mem_append_left _ (matE_has c hj hne)
    · obtain rfl:i=k:=by omega
      exact List.mem_append_right _ (rowE_has ok hj hne)
theorem rowE_len {A:Mat (Car kd)} {i:Nat}:∀ k:Nat,(rowE ok A i k).length≤k
  | 0=>Nat.le_refl 0
  | k + 1=>by
    show (rowE ok A i k ++ _).length≤_
    rw [List.length_append]
    have:=rowE_len (A:=A) (i:=i) k
    split <;> simp <;> omega
theorem matE_len {A:Mat (Car kd)} {m:Nat}:∀ k:Nat,(matE ok A m k).length≤k * m
  | 0=>Nat.zero_le _
  | k + 1=>by
    show (matE ok A m k ++ rowE ok A k m).length≤_
    rw [List.length_append,Nat.succ_mul]
    have:=matE_len (A:=A) (m:=m) k
    have:=rowE_len ok (A:=A) (i:=k) m
    omega
theorem edgeM_matE {A:Mat (Car kd)} {m i j:Nat} (hi:i < m) (hj:j < m):edgeM (ks kd ok) (matE ok A m m) i j=A i j:=by
  rw [edgeM_eq,once (ks kd ok) (A:=A) i j _ (matE_nd ok m) (fun e he=>(matE_mem ok he).2.2)]
  unfold KSR.when
  split
  · rfl
  · rename_i h
    by_cases c:enc kd (A i j)=enc kd (ks kd ok).zero
    · exact (enc_inj c).symm
    · exact absurd (matE_has ok hi hj c) h
theorem part_sm {A:Mat (Car kd)} {m B:Nat} (h:∀ i j,i < m→j < m→Sm B (enc kd (A i j))) (hz:Sm B (enc kd (ks kd ok).zero)) (k i t:Nat):Sm B (enc kd (stepV (ks kd ok) ((matE ok A m m).take k) (unitV (ks kd ok) i) t)):=by
  have e:stepV (ks kd ok) ((matE ok A m m).take k) (unitV (ks kd ok) i) t=edgeM (ks kd ok) ((matE ok A m m).take k) i t:=rfl
  have nd:(((matE ok A m m).take k).map fun e=>(e.f,e.t)).Nodup:=((List.take_sublist k _).map _).nodup (matE_nd ok m)
  rw [e,edgeM_eq,once (ks kd ok) (A:=A) i t _ nd (fun e he=>(matE_mem ok (List.mem_of_mem_take he)).2.2)]
  unfold KSR.when
  split
  · rename_i hm
    obtain ⟨e,he,eq⟩:=List.mem_map.mp hm
    obtain ⟨a,b,_⟩:=matE_mem ok (List.mem_of_mem_take he)
    have e1:e.f=i:=congrArg Prod.fst eq
    have e2:e.t=t:=congrArg Prod.snd eq
    exact h i t (by omega) (by omega)
  · exact hz
end
section
theorem to_front {S:Type} (M:KSR S) (m:Nat) (f:Nat→S):M.to (m + 1) f=M.add (f 0) (M.to m fun l=>f (l + 1)):=by
  show M.sum ((List.range (m + 1)).map f)=_
  rw [List.range_succ_eq_map,List.map_cons,List.map_map]; rfl
theorem to_out {S:Type} (M:KSR S) {m p:Nat} (hp:p < m + 1) (f:Nat→S):M.to (m + 1) f=M.add (f p) (M.to m fun l=>f (lf p l)):=by
  rw [← to_perm M (prow_perm hp) f,to_front M m]
  congr 1
  show M.sum _=M.sum _
  congr 1
  refine List.map_congr_left fun l hl=>?_
  rw [prow_succ (List.mem_range.mp hl)]
theorem filter_cha (p:Nat):∀ l:List (Edge (Car .chances)),(l.map fun e=>(ksChances.when (e.f=p) e.c).1).sum=((l.filter fun e=>decide (e.f=p)).map fun e=>e.c.1).sum
  | []=>rfl
  | e :: l=>by
    have ih:=filter_cha p l
    rw [List.map_cons,List.sum_cons,ih]
    by_cases h:e.f=p
    · have w:(ksChances.when (e.f=p) e.c).1=e.c.1:=congrArg Subtype.val (if_pos h)
      rw [List.filter_cons_of_pos (by simpa using h),List.map_cons,List.sum_cons]
      exact congrArg (· + _) w
    · have w:(ksChances.when (e.f=p) e.c).1=0:=when_no h _
      rw [List.filter_cons_of_neg (by simpa using h)]
      refine (congrArg (· + _) w).trans ?_
      show (0:Rat) + _=_
      grind
theorem row_le {n:Nat} {es:List (Edge (Car .chances))} (G:Graph .chances n es) (i:Nat):(ksChances.to n (edgeM ksChances es i)).1≤1:=by
  have z:=fw_edges ksChances es (fun e he=>(G.ends e he).2) i (fun _=>ksChances.one)
  have e1:(ksChances.to n fun l=>ksChances.mul (edgeM ksChances es i l) ksChances.one)=ksChances.to n (edgeM ksChances es i):=by
    show ksChances.sum _=ksChances.sum _
    congr 1
    exact List.map_congr_left fun l _=>ksChances.mul_one _
  rw [e1] at z
  have e0:=(congrArg Subtype.val z).trans (sum_cha es _)
  have e2:(es.map fun e=>(ksChances.when (e.f=i) (ksChances.mul e.c ksChances.one)).1)=es.map fun e=>(ksChances.when (e.f=i) e.c).1:=List.map_congr_left fun e _=>congrArg (fun x=>(ksChances.when (e.f=i) x).1) (ksChances.mul_one _)
  have e3:=(e0.trans (congrArg List.sum e2)).trans (filter_cha i es)
  have a2:=G.sub rfl i
  rw [sub_edge] at a2
  exact Eq.subst (motive:=fun z=>z≤1) e3.symm a2
theorem row_led {m p:Nat} {A0:Mat Cha} {r:Cha} (hp:p < m + 1) (h:∀ i,(ksChances.to (m + 1) (A0 i)).1≤1) (hr:ksChances.star (A0 p p)=some r) (i:Nat):(ksChances.to m fun k=>ledA ksChances A0 p r (lf p i) (lf p k)).1≤1:=by
  have lt:(A0 p p).1 < 1:=by
    by_cases c:(A0 p p).1 < 1
    · exact c
    · rw [chances_ge _ c] at hr; cases hr
  rw [chances_lt _ lt] at hr
  have er:r.1=(1 - (A0 p p).1)⁻¹:=by cases hr; rfl
  have e:(ksChances.to m fun k=>ledA ksChances A0 p r (lf p i) (lf p k))=ksChances.add (ksChances.to m fun k=>A0 (lf p i) (lf p k)) (ksChances.mul (ksChances.mul (A0 (lf p i) p) r) (ksChances.to m fun k=>A0 p (lf p k))):=by
    rw [mul_to,← to_add]; rfl
  rw [e]
  have h1:=h (lf p i)
  have h2:=h p
  rw [to_out ksChances hp] at h1 h2
  have h1:(A0 (lf p i) p).1 + (ksChances.to m fun k=>A0 (lf p i) (lf p k)).1≤1:=h1
  have h2:(A0 p p).1 + (ksChances.to m fun k=>A0 p (lf p k)).1≤1:=h2
  show (ksChances.to m fun k=>A0 (lf p i) (lf p k)).1 + (A0 (lf p i) p).1 * r.1 * (ksChances.to m fun k=>A0 p (lf p k)).1≤1
  have a0:=(A0 (lf p i) p).2
  have r0:=r.2
  generalize (ksChances.to m fun k=>A0 (lf p i) (lf p k)).1=x at *
  generalize (ksChances.to m fun k=>A0 p (lf p k)).1=y at *
  generalize (A0 (lf p i) p).1=a at *
  generalize (A0 p p).1=b at *
  generalize r.1=c at *
  have e1:c * (1 - b)=1:=by rw [er]; exact Rat.inv_mul_cancel _ (by grind)
  have s1:c * y≤1:=by
    have:=Rat.mul_le_mul_of_nonneg_left (show y≤1 - b by grind) r0
    rw [e1] at this; exact this
  have s2:a * (c * y)≤a * 1:=Rat.mul_le_mul_of_nonneg_left s1 a0
  have s3:a * c * y=a * (c * y):=Rat.mul_assoc ..
  grind
theorem rowE_sum (ok:KdOk .chances) (A:Mat Cha) (i:Nat):∀ k:Nat,((rowE ok A i k).map fun e=>e.c.1).sum=(ksChances.to k (A i)).1
  | 0=>rfl
  | k + 1=>by
    have ih:=rowE_sum ok A i k
    rw [to_succ]
    show ((rowE ok A i k ++ _).map _).sum=(ksChances.to k (A i)).1 + (A i k).1
    rw [List.map_append,List.sum_append,ih]
    split
    · rename_i h
      have:A i k=(ks .chances ok).zero:=enc_inj h
      rw [this]
      rfl
    · show _ + ((A i k).1 + 0)=_
      grind
theorem rowE_filter (ok:KdOk .chances) (A:Mat Cha) (i p:Nat) (k:Nat):(rowE ok A i k).filter (fun e=>decide (e.f=p))=if i=p then rowE ok A i k else []:=by
  split
  · exact List.filter_eq_self.mpr fun e he=>by rw [(rowE_mem ok he).1]; simpa
  · exact List.filter_eq_nil_iff.mpr fun e he=>by rw [(rowE_mem ok he).1]; simpa
theorem matE_filter (ok:KdOk .chances) (A:Mat Cha) (m p:Nat):∀ k:Nat,((matE ok A m k).filter fun e=>decide (e.f=p))=if p < k then rowE ok A p m else []
  | 0=>rfl
  | k + 1=>by
    show (matE ok A m k ++ rowE ok A k m).filter _=_
    rw [List.filter_append,matE_filter ok A m p k,rowE_filter]
    by_cases c:p < k
    · rw [if_pos c,if_neg (by omega),if_pos (by omega),List.append_nil]
    · rw [if_neg c]
      by_cases d:k=p
      · subst d; rw [if_pos rfl,if_pos (by omega)]; rfl
      · rw [if_neg d,if_neg (by omega)]; rfl
end
end Ws
namespace Ws
open PySem
structure GrT (kd:Kd) (ok:KdOk kd) (n:Nat) (es:List (Edge (Car kd))):Prop where
  nb:n≤8
  ends:∀ e∈es,e.f < n∧e.t < n
  sm:∀ e∈es,Sm 2000 (enc kd e.c)
  sum:∀ j i t,Sm 52000 (enc kd (stepV (ks kd ok) (es.take j) (unitV (ks kd ok) i) t))
def TFT (kd:Kd) (ok:KdOk kd) (es:List (Edge (Car kd))) (n:Nat):Prop:=∀ k,k≤n→∀ A,stageA (ks kd ok) (edgeM (ks kd ok) es) k=some A→∀ i j,i < n→j < n→Sm 2000000 (enc kd (A i j))
theorem Graph.grT {kd:Kd} {ok:KdOk kd} {n:Nat} {es:List (Edge (Car kd))} (G:Graph kd n es) (h64:es.length≤64):GrT kd ok n es :=
  ⟨G.nb,G.ends,fun e he=>(G.sm e he).mono (by decide),fun j i t=>((G.fits (ok:=ok) h64 i (k:=1) (by decide)).sum 0 (by decide) j t).mono (by decide)⟩
theorem Graph.tft {kd:Kd} {ok:KdOk kd} {n:Nat} {es:List (Edge (Car kd))} (G:Graph kd n es) (hl:es.length≤64) (h7:n≤7):TFT kd ok es n:=fun k hk A h i j _ _=>(G.tfits hl h7).sm hk h i j
theorem base_plain {kd:Kd} {ok:KdOk kd} (hc:kd≠.chances) {n:Nat} {es:List (Edge (Car kd))} (G:Graph kd n es) (hl:es.length≤64) (i j:Nat):Sm 520 (enc kd (edgeM (ks kd ok) es i j)) :=
  ((fits_plain (ok:=ok) hc G.sm hl i 1).at_ 1 (Nat.le_refl _) j).mono (by decide)
theorem led_sm {kd:Kd} {ok:KdOk kd} {n:Nat} {es:List (Edge (Car kd))} (G:Graph kd n es) (hl:es.length≤64) {p:Nat} {r:Car kd} (hr:(ks kd ok).star (edgeM (ks kd ok) es p p)=some r) (i j:Nat):Sm 1700 (enc kd (ledA (ks kd ok) (edgeM (ks kd ok) es) p r i j)):=by
  by_cases hc:kd=.chances
  · subst hc
    exact (((frac_edges G).led hr).sm i j).mono (by decide)
  · have hB:=fun i j=>base_plain (ok:=ok) hc G hl i j
    have hr':=sm_star (hB p p) hr
    have hm:=sm_mul (ok:=ok) (sm_mul (ok:=ok) (hB i p) hr') (hB p j)
    exact (sm_add2 (ok:=ok) hc ((hB i j).mono (show 520≤3 * 520 + 54 by decide)) (hm.mono (by decide))).mono (by decide)
theorem ring_sizes {kd:Kd} {ok:KdOk kd} {n:Nat} {es:List (Edge (Car kd))} (G:Graph kd n es) (hl:es.length≤64) (q:Nat→Nat) {k:Nat} (hk:k≤7) {B:Mat (Car kd)} (h:stageA (ks kd ok) (fun i j=>edgeM (ks kd ok) es (q i) (q j)) k=some B) (i j:Nat):Sm 2000000 (enc kd (B i j)):=by
  by_cases hc:kd=.chances
  · subst hc
    have F:Frac 200 (fun i j=>edgeM ksChances es (q i) (q j)):=by
      obtain ⟨d,hd⟩:=(frac_edges G).ex
      exact ⟨fun i=>d (q i),fun i=>⟨(hd (q i)).1,(hd (q i)).2.1,fun j=>(hd (q i)).2.2 (q j)⟩⟩
    exact ((stage_frac F h).sm i j).mono (Nat.le_trans (bC_le (by omega)) (by decide))
  · exact (stage_plain hc (fun i j=>base_plain (ok:=ok) hc G hl (q i) (q j)) h i j).mono (bP_le hk)
section
variable {kd : Kd} {ok : KdOk kd} {m p : Nat} {es : List (Edge (Car kd))} {r : Car kd}
def outE (ok:KdOk kd) (es:List (Edge (Car kd))) (p m:Nat) (r:Car kd):List (Edge (Car kd)):=matE ok (fun i j=>ledA (ks kd ok) (edgeM (ks kd ok) es) p r (lf p i) (lf p j)) m m
theorem out_grT (G:Graph kd (m + 1) es) (hl:es.length≤64) (hr:(ks kd ok).star (edgeM (ks kd ok) es p p)=some r):GrT kd ok m (outE ok es p m r):=by
  have nb:=G.nb
  refine ⟨by omega,fun e he=>⟨(matE_mem ok he).1,(matE_mem ok he).2.1⟩,fun e he=>?_,fun j i t=>?_⟩
  · rw [(matE_mem ok he).2.2]
    exact (led_sm G hl hr _ _).mono (by decide)
  · exact (part_sm ok (B:=1700) (fun i j _ _=>led_sm G hl hr _ _) ((sm_zero kd ok).mono (by decide)) j i t).mono (by decide)
theorem out_yes (G:Graph kd (m + 1) es) (hp:p < m + 1) (m1:1≤m) (hr:(ks kd ok).star (edgeM (ks kd ok) es p p)=some r):netYes kd (m:Int) ((outE ok es p m r).map (Edge.road kd))=true:=by
  have nb:=G.nb
  have hlen:(outE ok es p m r).length≤64:=Nat.le_trans (matE_len ok m) (by
    have:m * m≤7 * 7:=Nat.mul_le_mul (by omega) (by omega)
    omega)
  simp only [netYes,numsOk,Bool.and_eq_true,decide_eq_true_eq]
  refine ⟨⟨⟨by omega,by omega⟩,by rw [List.length_map]; exact hlen⟩,?_,?_⟩
  · refine List.all_eq_true.mpr fun x hx=>?_
    obtain ⟨e,he,rfl⟩:=List.mem_map.mp hx
    obtain ⟨a,b,_⟩:=matE_mem ok he
    show (decide ((0:Int)≤((e.f:Nat):Int)) && decide (((e.f:Nat):Int) < (m:Int)) && (decide ((0:Int)≤((e.t:Nat):Int)) && decide (((e.t:Nat):Int) < (m:Int))))=true
    rw [decide_eq_true (by omega),decide_eq_true (by omega),decide_eq_true (by omega),decide_eq_true (by omega)]; rfl
  · refine List.all_eq_true.mpr fun i hi=>?_
    have hi:i < m:=by have:=List.mem_range.mp hi; omega
    cases kd with
    | chances =>
      refine decide_eq_true ?_
      rw [sub_edge]
      have e1:=matE_filter ok (fun i j=>ledA ksChances (edgeM ksChances es) p r (lf p i) (lf p j)) m i m
      rw [if_pos hi] at e1
      have e2:=(congrArg (fun l=>(l.map fun e:Edge (Car .chances)=>e.c.1).sum) e1).trans (rowE_sum ok _ i m)
      exact Eq.subst (motive:=fun z=>z≤1) e2.symm (row_led hp (fun i=>row_le G i) hr i)
    | _=>rfl
theorem out_worths:worthsOk kd ((outE ok es p m r).map (Edge.road kd))=true:=by
  refine List.all_eq_true.mpr fun x hx=>?_
  obtain ⟨e,he,rfl⟩:=List.mem_map.mp hx
  exact isWorth_enc e.c
theorem out_sm (G:Graph kd (m + 1) es) (hl:es.length≤64) (hr:(ks kd ok).star (edgeM (ks kd ok) es p p)=some r):∀ x∈(outE ok es p m r).map (Edge.road kd),Sm 4000 x.w:=fun x hx=>by
  obtain ⟨e,he,rfl⟩:=List.mem_map.mp hx
  exact ((out_grT G hl hr).sm e he).mono (by decide)
theorem out_stage (hr:(ks kd ok).star (edgeM (ks kd ok) es p p)=some r) {k:Nat} (hk:k≤m) :
    (stageA (ks kd ok) (edgeM (ks kd ok) (outE ok es p m r)) k=none∧stageA (ks kd ok) (fun i j=>edgeM (ks kd ok) es ((prow p m).getD i 0) ((prow p m).getD j 0)) (k + 1)=none) ∨
    ∃ A B,stageA (ks kd ok) (edgeM (ks kd ok) (outE ok es p m r)) k=some A∧stageA (ks kd ok) (fun i j=>edgeM (ks kd ok) es ((prow p m).getD i 0) ((prow p m).getD j 0)) (k + 1)=some B∧∀ i j,i < m→j < m→A i j=B (i + 1) (j + 1):=by
  refine stage_rest (ks kd ok) (r:=r) hr (fun i j hi hj=>?_) k hk
  refine (edgeM_matE ok hi hj).trans ?_
  show (ks kd ok).add _ ((ks kd ok).mul ((ks kd ok).mul _ r) _)=(ks kd ok).add (edgeM (ks kd ok) es ((prow p m).getD (i + 1) 0) ((prow p m).getD (j + 1) 0)) ((ks kd ok).mul ((ks kd ok).mul (edgeM (ks kd ok) es ((prow p m).getD (i + 1) 0) p) r) (edgeM (ks kd ok) es p ((prow p m).getD (j + 1) 0)))
  rw [prow_succ hi,prow_succ hj]
theorem out_tft (G:Graph kd (m + 1) es) (hl:es.length≤64) (h7:m + 1≤7) (hr:(ks kd ok).star (edgeM (ks kd ok) es p p)=some r):TFT kd ok (outE ok es p m r) m:=by
  intro k hk A h i j hi hj
  rcases out_stage (m:=m) hr hk with ⟨a,_⟩ | ⟨A',B,a,b,e⟩
  · rw [h] at a; cases a
  · rw [h] at a
    obtain rfl:=Option.some.inj a
    rw [e i j hi hj]
    exact ring_sizes G hl (fun i=>(prow p m).getD i 0) (by omega) b _ _
theorem out_tab (hp:p < m + 1) (hr:(ks kd ok).star (edgeM (ks kd ok) es p p)=some r) {A:Mat (Car kd)} (hA:stageA (ks kd ok) (edgeM (ks kd ok) es) (m + 1)=some A) :
    ∃ As,stageA (ks kd ok) (edgeM (ks kd ok) (outE ok es p m r)) m=some As∧∀ i j,i < m→j < m→tabA (ks kd ok) As i j=tabA (ks kd ok) A (lf p i) (lf p j):=by
  have hAB:∀ i j,i < m + 1→j < m + 1→edgeM (ks kd ok) es ((prow p m).getD i 0) ((prow p m).getD j 0)=(fun i j=>edgeM (ks kd ok) es ((prow p m).getD i 0) ((prow p m).getD j 0)) i j:=fun _ _ _ _=>rfl
  rcases out_stage (m:=m) hr (Nat.le_refl m) with ⟨_,b⟩ | ⟨As,B,a,b,e⟩
  · rw [(named_none (prow_perm hp) hAB).mpr b] at hA; cases hA
  · refine ⟨As,a,fun i j hi hj=>?_⟩
    rw [tab_rest (ks kd ok) e hi hj,← named_eq (prow_perm hp) hAB b hA (show i + 1 < m + 1 by omega) (show j + 1 < m + 1 by omega),prow_succ hi,prow_succ hj]
end
end Ws
namespace K13
open PySem L2 Ws
seal PE PT PW PA PC PS PSs PG PGs PI PO
def top (i : Nat) : Stmt := PySem.Challenge.pw_waysum_k13_whole_a_place_taken_out.main.body.getD i (.Pass ⟨0, 0, 0, 0⟩)
structure Adr where
  (cSumError cNoNet cNoWorth cNoPlace cNoSum cKind cFewest cWidest cCounted cLikeliest cChances cMusts cRests cNet:Addr)
  (tWIDEST tMOST_RESTS tMOST_PLACES tMOST_ROADS:Tok)
def HasK:Kd→Prop
  | .fewest=>True
  | .widest=>True
  | .counted=>True
  | .likeliest=>True
  | .chances=>True
  | .musts=>True
  | .rests _=>True
def Adr.cls (a:Adr):Kd→Addr
  | .fewest=>a.cFewest
  | .widest=>a.cWidest
  | .counted=>a.cCounted
  | .likeliest=>a.cLikeliest
  | .chances=>a.cChances
  | .musts=>a.cMusts
  | .rests _=>a.cRests
structure Tx (K:PySem.W.Frag) (mg:Str→Option Value) (a:Adr):Prop where
  b_isinstance:mg "isinstance"=none
  b_len:mg "len"=none
  b_int:mg "int"=none
  b_bool:mg "bool"=none
  b_tuple:mg "tuple"=none
  b_list:mg "list"=none
  b_ValueError:mg "ValueError"=none
  b_range:mg "range"=none
  b_min:mg "min"=none
  b_max:mg "max"=none
  b_enumerate:mg "enumerate"=none
  c_WIDEST:mg "WIDEST"=some (.int 1000000000 a.tWIDEST)
  c_MOST_RESTS:mg "MOST_RESTS"=some (.int 12 a.tMOST_RESTS)
  c_MOST_PLACES:mg "MOST_PLACES"=some (.int 8 a.tMOST_PLACES)
  c_MOST_ROADS:mg "MOST_ROADS"=some (.int 64 a.tMOST_ROADS)
  g_SumError:mg "SumError"=some (.ref a.cSumError)
  g_NoNet:mg "NoNet"=some (.ref a.cNoNet)
  g_NoWorth:mg "NoWorth"=some (.ref a.cNoWorth)
  g_NoPlace:mg "NoPlace"=some (.ref a.cNoPlace)
  g_NoSum:mg "NoSum"=some (.ref a.cNoSum)
  g_Kind:mg "Kind"=some (.ref a.cKind)
  g_Fewest:mg "Fewest"=some (.ref a.cFewest)
  g_Widest:mg "Widest"=some (.ref a.cWidest)
  g_Counted:mg "Counted"=some (.ref a.cCounted)
  g_Likeliest:mg "Likeliest"=some (.ref a.cLikeliest)
  g_Chances:mg "Chances"=some (.ref a.cChances)
  g_Musts:mg "Musts"=some (.ref a.cMusts)
  g_Rests:mg "Rests"=some (.ref a.cRests)
  g_Net:mg "Net"=some (.ref a.cNet)
  k_NoSum:mg "NoSum"=some (.ref a.cNoSum)
  x_NoNet:ExC K mg "NoNet" a.cNoNet
  exk_NoNet:ExK K a.cNoNet
  x_NoPlace:ExC K mg "NoPlace" a.cNoPlace
  exk_NoPlace:ExK K a.cNoPlace
  x_NoSum:ExC K mg "NoSum" a.cNoSum
  exk_NoSum:ExK K a.cNoSum
  exm_NoSum_NoSum:PySem.W.exmOne K (.ref a.cNoSum) (.ref a.cNoSum)=some true
  x_NoWorth:ExC K mg "NoWorth" a.cNoWorth
  exk_NoWorth:ExK K a.cNoWorth
  n_Fewest:Mk0 K mg "Fewest" a.cFewest
  n_Widest:Mk0 K mg "Widest" a.cWidest
  n_Counted:Mk0 K mg "Counted" a.cCounted
  n_Likeliest:Mk0 K mg "Likeliest" a.cLikeliest
  n_Chances:Mk0 K mg "Chances" a.cChances
  n_Musts:Mk0 K mg "Musts" a.cMusts
  mk_Rests:PySem.W.makesIn K a.cRests=true
  kp_Rests:PySem.W.keepIn K (.ref a.cRests)=true
  na_Rests_m:NoAttr K a.cRests "m"
  mk_Net:PySem.W.makesIn K a.cNet=true
  kp_Net:PySem.W.keepIn K (.ref a.cNet)=true
  na_Net_own_kind:NoAttr K a.cNet "own_kind"
  na_Net_how_many:NoAttr K a.cNet "how_many"
  na_Net_own_roads:NoAttr K a.cNet "own_roads"
  cl_Net:Cls K a.cNet
  cl:∀ kd,HasK kd→Cls K (a.cls kd)
abbrev KI:={kd:Kd // HasK kd}
abbrev Adr.cl (a:Adr) (i:KI):Addr:=a.cls i.1
def IsW (H:Hp):V→Wd→Prop
  | .non,.non=>True
  | .int i,.int j=>i=j
  | .ref p,.pair a b=>H p=some (.tup [.int a,.int b])
  | _,_=>False
theorem IsW.same {H H':Hp} (e:Same H H'):∀ {v:V} {w:Wd},IsW H v w→IsW H' v w
  | .non,.non,_=>True.intro
  | .int _,.int _,h=>h
  | .ref _,.pair _ _,h=>e _ _ h
theorem isW_cases {H:Hp}:∀ {v:V} {w:Wd},IsW H v w→(v=.non∧w=.non)∨(∃ i,v=.int i∧w=.int i)∨(∃ p a b,v=.ref p∧w=.pair a b∧H p=some (.tup [.int a,.int b]))
  | .non,.non,_=>.inl ⟨rfl,rfl⟩
  | .int _,.int _,h=>.inr (.inl ⟨_,rfl,congrArg Wd.int h.symm⟩)
  | .ref _,.pair _ _,h=>.inr (.inr ⟨_,_,_,rfl,rfl,h⟩)
theorem kit_nI {K:PySem.W.Frag}:PySem.W.kitOne K (.type "NoneType") (.type "int")=some false:=by rfl
theorem kit_iI {K:PySem.W.Frag}:PySem.W.kitOne K (.type "int") (.type "int")=some true:=by rfl
theorem kit_tI {K:PySem.W.Frag}:PySem.W.kitOne K (.type "tuple") (.type "int")=some false:=by rfl
theorem kit_nT {K:PySem.W.Frag}:PySem.W.kitOne K (.type "NoneType") (.type "tuple")=some false:=by rfl
theorem kit_iT {K:PySem.W.Frag}:PySem.W.kitOne K (.type "int") (.type "tuple")=some false:=by rfl
theorem kit_tT {K:PySem.W.Frag}:PySem.W.kitOne K (.type "tuple") (.type "tuple")=some true:=by rfl
def kfs:Kd→List (Str × V)
  | .rests m=>[("m",.int (m:Int))]
  | _=>[]
def KindAt (a:Adr) (H:Hp) (p:Addr) (kd:Kd):Prop:=∃ dx,H p=some (.ins (a.cls kd) dx (kfs kd))
section
variable {P : Program} {w : World} {K : PySem.W.Frag} {mg : Str → Option Value} {base : Heap} {a : Adr}
theorem log2_small {i:Int} (h:i.natAbs < 10 ^ 62):i.natAbs.log2 < 1920:=by
  by_cases z:i.natAbs=0
  · rw [z]; decide
  · have:=(Nat.log2_lt z (k:=210)).mpr (Nat.lt_trans h (by decide))
    omega
def spDivisor:Sp:=fun vs H Q _=>∃ x y:Int,vs=[.int x,.int y]∧0 < y∧Q (.int (Int.gcd x y:Int)) H
theorem sc_divisor:FnScope ["first","second","left"] ["first","second"] (defScope (top 8)):=⟨rfl,rfl,rfl,by decide +kernel,rfl,by decide +kernel,by decide +kernel⟩
theorem d_divisor (F:DefAt K mg "divisor" (top 8)):Dn P w K mg base 1 "divisor" ["first","second"] spDivisor:=by
  obtain ⟨f,fd,hm,F⟩:=F.ex
  refine ⟨f,fd,hm,F.kp,F.binds fun _ _ _ _ _ _ us hl=>match us,hl with | [_,_],_=>rfl,?_⟩
  refine F.okN sc_divisor (fun vs H Q E h=>?_) (fun cdv A outer s H vs Q E hr h=>?_)
  · obtain ⟨x,y,rfl,_⟩:=h
    rfl
  · obtain ⟨x,y,rfl,hy,q⟩:=h
    refine ⟨_,(pss_cons (ps_while PassesOwn.never (pt_cmpR op_gt (pv 1) pe_int (nomark _)) (pss_cons (ps_set (i:=2) sc_divisor.nd rfl (Or.inl rfl) (pe_op op_mod (pv 0) (pv 1)))
      (pss_cons (ps_set (i:=0) sc_divisor.nd rfl (Or.inl rfl) (pv 1))
      (pss_one (ps_set (i:=1) sc_divisor.nd rfl (Or.inl rfl) (pv 2))))))
      (pss_one (ps_ret (pv 0)))),?_⟩
    refine ⟨fun m σ H'=>∃ x' y' l,σ=[some (.int x'),some (.int y'),l]∧H'=H∧0≤y'∧m=y'.toNat∧Int.gcd x' y'=Int.gcd x y∧(y'=0→0≤x'),⟨_,x,y,_,rfl,rfl,by omega,rfl,rfl,fun z=>by omega⟩,?_⟩
    rintro m σ H' ⟨x',y',l,rfl,rfl,h0,rfl,hg,hx⟩
    refine ⟨_,rfl,_,_,rfl,rfl,_,rfl,?_⟩
    refine ite2 (fun c=>?_) (fun c=>?_)
    · have c:0 < y':=of_decide_eq_true c
      refine ⟨fun σ' H'=>_,fun _ _ z=>z,?_⟩
      refine ⟨_,rfl,_,rfl,_,_,rfl,rfl,c,_,rfl,_,rfl,?_⟩
      refine ⟨(x' % y').toNat,?_,_,_,_,rfl,rfl,Int.emod_nonneg _ (by omega),rfl,?_,fun _=>by omega⟩
      · have:=Int.emod_lt_of_pos x' c
        have:=Int.emod_nonneg x' (show y'≠0 by omega)
        omega
      · rw [← hg]
        exact gcd_step x' y'
    · have c:¬ 0 < y':=fun z=>c (decide_eq_true z)
      obtain rfl:y'=0:=by omega
      refine ⟨_,rfl,?_⟩
      rw [Int.gcd_zero_right] at hg
      have:x'=(Int.gcd x y:Int):=by rw [← hg]; have:=hx rfl; omega
      rw [this]
      exact q
theorem isW_int {H:Hp} {v:V} {i:Int} (h:IsW H v (.int i)):v=.int i:=by
  rcases isW_cases h with ⟨_,z⟩ | ⟨j,e,z⟩ | ⟨p,x,y,_,z,_⟩ <;> cases z
  exact e
theorem isW_pair {H:Hp} {v:V} {x y:Int} (h:IsW H v (.pair x y)):∃ p,v=.ref p∧H p=some (.tup [.int x,.int y]):=by
  rcases isW_cases h with ⟨_,z⟩ | ⟨j,e,z⟩ | ⟨p,x,y,e,z,h⟩ <;> cases z
  exact ⟨p,e,h⟩
theorem isW_non {H:Hp} {v:V} (h:IsW H v .non):v=.non:=by
  rcases isW_cases h with ⟨e,z⟩ | ⟨j,e,z⟩ | ⟨p,x,y,e,z,h⟩ <;> cases z
  exact e
theorem m_of {kd:Kd} (hk:HasK kd) {m qual:Str} {st:Stmt} {ps:List Str} {k:Nat} {sp:Sp} (T:Tx K mg a) (F:MthAt K (a.cls kd) m qual st)
    (hb:∀ (kV doc pm:Value) (an:Option Addr) (cdv ct:Value) (us:List Value),us.length=ps.length→bindArgs (PySem.W.fnOf m qual (defArgs st) (defBody st) (defScope st) .none kV doc pm an cdv ct) ⟨us,[]⟩=pure (ps.zip us))
    (h:∀ f fd,Fun K m qual st f fd→FnOk P w K mg base (CXE P w) k f fd ps sp) :
    Cls K (a.cls kd)∧∃ f fd,Meth K (a.cls kd) m f∧Binds K fd ps []∧FnOk P w K mg base (CXE P w) k f fd ps sp:=by
  obtain ⟨f,fd,hf,hi,F⟩:=F.ex
  exact ⟨T.cl kd hk,f,fd,⟨hf,hi,F.kp⟩,F.binds hb,h f fd F⟩
def spInit (a:Adr):Sp:=fun vs H Q E=>∃ p dx m,vs=[.ref p,.int m]∧H p=some (.ins a.cRests dx [])∧m.natAbs.log2 < 1920∧((1≤m∧m≤12)→Q .non (upd H p (.ins a.cRests dx [("m",.int m)])))∧(¬ (1≤m∧m≤12)→E (.ref a.cNoWorth) none H)
theorem sc_Rests_init:FnScope ["self","m"] ["self","m"] (defScope (inClass (top 27) 0)):=⟨rfl,rfl,rfl,by decide +kernel,rfl,by decide +kernel,by decide +kernel⟩
theorem rais_cx {N:List Str} {qual:Str} {scope:Scope} {f:Addr} {cd:Value} {A:Around} {outer:List Env} {s:Shared} {H:Hp} {E:XK} (hk:scope.kind=.function:=by rfl):Rais (cxOf (CXE P w) P w K mg base N qual scope f cd A outer s H E) E :=
  fun _ _ _ _ _ _ _ _ I mx q=>raise_cx I hk mx q
theorem make_Rests (T:Tx K mg a) (F:MthAt K a.cRests "__init__" "Rests.__init__" (inClass (top 27) 0)):Mkr P w K mg base 1 "Rests" a.cRests ["self","m"] (spInit a):=by
  obtain ⟨f,fd,hf,hi,F⟩:=F.ex
  refine ⟨T.g_Rests,f,fd,⟨T.mk_Rests,hf,hi,T.kp_Rests⟩,F.binds fun _ _ _ _ _ _ us hl=>match us,hl with | [_,_],_=>rfl,?_⟩
  refine F.okX sc_Rests_init (fun vs H Q E h=>?_) (fun cdv A outer s H vs Q E hr h=>?_)
  · obtain ⟨_,_,_,rfl,_⟩:=h
    rfl
  · obtain ⟨p,dx,m,rfl,hp,hl,q,e⟩:=h
    refine ⟨_,(pss_cons (ps_if (PW.pt (pw_or (pt_cmpR op_lt (pv 1) pe_int (nomark _)) (pw_or1 (pt_cmpR op_gt (pv 1) (pe_glob (v:=V.int 12) rfl T.c_MOST_RESTS ⟨_,rfl⟩) (nomark _))))) (pss_one (ps_raise T.x_NoWorth rfl rfl rais_cx (pa_cons (hs:=st_JoinedStr) (pe_fstr2 (pv 1)) pa_nil))) pss_nil)
      (pss_one (ps_fld (pv 0) (pv 1) rfl))),?_⟩
    have hs:(Str.ofString "rests are told by 1 to 12, not by ").length≤1000:=by decide +kernel
    refine ⟨_,rfl,_,_,rfl,rfl,_,rfl,iteD (fun c=>?_) (fun c=>?_)⟩
    · exact ⟨hs,_,rfl,_,rfl,hl,fun z=>⟨by show 1≤sizeLine; decide,e (fun ⟨y,_⟩=>by omega)⟩⟩
    · refine ⟨_,rfl,_,_,rfl,rfl,_,rfl,iteD (fun c2=>?_) (fun c2=>?_)⟩
      · exact ⟨hs,_,rfl,_,rfl,hl,fun z=>⟨by show 1≤sizeLine; decide,e (fun ⟨_,y⟩=>by omega)⟩⟩
      · exact ⟨_,rfl,_,rfl,p,_,dx,[],rfl,hp,T.cl (.rests 1) trivial,T.na_Rests_m,(by show 0 < 1000; decide),q ⟨by omega,by omega⟩⟩
def spCell (K:PySem.W.Frag):Sp:=fun vs H Q _=>∃ (sa:Addr) (ns:List Int) (k:Int),vs=[.ref sa,.int k]∧SqL K H sa (ns.map V.int)∧0≤k∧Q (.int (ns.getD k.toNat 0)) H
theorem sc_law_cell_at:FnScope ["script","k"] ["script","k"] (defScope (top 43)):=⟨rfl,rfl,rfl,by decide +kernel,rfl,by decide +kernel,by decide +kernel⟩
theorem d_cell (T:Tx K mg a) (F:DefAt K mg "_law_cell_at" (top 43)):Dn P w K mg base 1 "_law_cell_at" ["script","k"] (spCell K):=by
  obtain ⟨f,fd,hm,F⟩:=F.ex
  refine ⟨f,fd,hm,F.kp,F.binds fun _ _ _ _ _ _ us hl=>match us,hl with | [_,_],_=>rfl,?_⟩
  refine F.okN sc_law_cell_at (fun vs H Q E h=>?_) (fun cdv A outer s H vs Q E hr h=>?_)
  · obtain ⟨_,_,_,rfl,_⟩:=h
    rfl
  · obtain ⟨sa,ns,k,rfl,hS,h0,q⟩:=h
    refine ⟨_,(pss_cons (ps_if (pt_cmpR op_lt (pv 1) (pe_callB call_len_seq rfl T.b_len bt_len (pa_cons (hs:=st_Name) (pv 0) pa_nil)) (nomark _)) (pss_one (ps_ret (pe_ix ix_list (pv 0) (pv 1) (fun _ _=>rfl)))) pss_nil)
      (pss_one (ps_ret pe_int))),?_⟩
    refine ⟨_,rfl,_,rfl,sa,_,rfl,.inl hS,_,_,rfl,rfl,_,rfl,iteD (fun c=>?_) (fun c=>?_)⟩
    · rw [List.length_map] at c
      have e:atI (ns.map V.int) k=some (V.int (ns.getD k.toNat 0)):=by
        have e1:(ns.map V.int)[k.toNat]?=some (V.int (ns.getD k.toNat 0)):=by
          rw [List.getElem?_map,List.getD_eq_getElem?_getD,List.getElem?_eq_getElem (by omega)]
          rfl
        have:=atI_nat e1
        rw [show ((k.toNat:Nat):Int)=k by omega] at this
        exact this
      exact ⟨_,rfl,_,rfl,sa,_,k,_,rfl,rfl,hS,e,q⟩
    · rw [List.length_map] at c
      have e:ns.getD k.toNat 0=0:=by
        rw [List.getD_eq_getElem?_getD,List.getElem?_eq_none (by omega)]
        rfl
      rw [e] at q
      exact q
def spKind (a:Adr):Sp:=fun vs H Q _=>∃ which m,vs=[.int which,.int m]∧0≤which∧which < 7∧1≤m∧m≤12∧∀ p H',Same H H'→KindAt a H' p (kdOf which m)→Q (.ref p) H'
theorem sc_law_kind:FnScope ["which","m"] ["which","m"] (defScope (top 45)):=⟨rfl,rfl,rfl,by decide +kernel,rfl,by decide +kernel,by decide +kernel⟩
theorem d_kind (T:Tx K mg a) (M_Rests:Mkr P w K mg base 1 "Rests" a.cRests ["self","m"] (spInit a)) (F:DefAt K mg "_law_kind" (top 45)):Dn P w K mg base 3 "_law_kind" ["which","m"] (spKind a):=by
  obtain ⟨f,fd,hm,F⟩:=F.ex
  refine ⟨f,fd,hm,F.kp,F.binds fun _ _ _ _ _ _ us hl=>match us,hl with | [_,_],_=>rfl,?_⟩
  refine F.okN sc_law_kind (fun vs H Q E h=>?_) (fun cdv A outer s H vs Q E hr h=>?_)
  · obtain ⟨_,_,rfl,_⟩:=h
    rfl
  · obtain ⟨which,m,rfl,h0,h7,m1,m2,q⟩:=h
    refine ⟨_,(pss_cons (ps_if (pt_cmpR op_eq (pv 0) pe_int (nomark _)) (pss_one (ps_ret (pe_makeN T.n_Fewest rfl))) pss_nil)
      (pss_cons (ps_if (pt_cmpR op_eq (pv 0) pe_int (nomark _)) (pss_one (ps_ret (pe_makeN T.n_Widest rfl))) pss_nil)
      (pss_cons (ps_if (pt_cmpR op_eq (pv 0) pe_int (nomark _)) (pss_one (ps_ret (pe_makeN T.n_Counted rfl))) pss_nil)
      (pss_cons (ps_if (pt_cmpR op_eq (pv 0) pe_int (nomark _)) (pss_one (ps_ret (pe_makeN T.n_Likeliest rfl))) pss_nil)
      (pss_cons (ps_if (pt_cmpR op_eq (pv 0) pe_int (nomark _)) (pss_one (ps_ret (pe_makeN T.n_Chances rfl))) pss_nil)
      (pss_cons (ps_if (pt_cmpR op_eq (pv 0) pe_int (nomark _)) (pss_one (ps_ret (pe_makeN T.n_Musts rfl))) pss_nil)
      (pss_one (ps_ret (pe_makeD M_Rests (hr.mono (by decide)) rfl passE0 (pa_cons (hs:=st_Name) (pv 1) pa_nil)))))))))),?_⟩
    have mk:∀ kd,kdOf which m=kd→kfs kd=[]→∀ x dx,H x=none→H dx=none→dx≠x→Q (.ref x) (upd (upd H dx (.own x)) x (.ins (a.cls kd) dx [])) :=
      fun kd ek ef x dx nx ndx _=>q x _ (same_two nx ndx) (by rw [ek]; exact ⟨dx,by rw [ef]; exact upd_same⟩)
    refine ⟨_,rfl,rfl,_,rfl,iteEqI (fun e=>?_) (fun n0=>?_)⟩
    · exact mk .fewest (by simp [kdOf,e]) rfl
    refine ⟨_,rfl,rfl,_,rfl,iteEqI (fun e=>?_) (fun n1=>?_)⟩
    · exact mk .widest (by simp [kdOf,e]) rfl
    refine ⟨_,rfl,rfl,_,rfl,iteEqI (fun e=>?_) (fun n2=>?_)⟩
    · exact mk .counted (by simp [kdOf,e]) rfl
    refine ⟨_,rfl,rfl,_,rfl,iteEqI (fun e=>?_) (fun n3=>?_)⟩
    · exact mk .likeliest (by simp [kdOf,e]) rfl
    refine ⟨_,rfl,rfl,_,rfl,iteEqI (fun e=>?_) (fun n4=>?_)⟩
    · exact mk .chances (by simp [kdOf,e]) rfl
    refine ⟨_,rfl,rfl,_,rfl,iteEqI (fun e=>?_) (fun n5=>?_)⟩
    · exact mk .musts (by simp [kdOf,e]) rfl
    refine ⟨_,rfl,fun x dx nx ndx nex=>⟨x,dx,m,rfl,upd_same,log2_small (by omega),fun _=>⟨rfl,?_⟩,fun n=>absurd ⟨m1,m2⟩ n⟩⟩
    refine q x _ (fun b o e=>?_) ⟨dx,?_⟩
    · rw [upd_ne (ne_of_none e nx)]; exact same_two nx ndx b o e
    · rw [show kdOf which m=.rests m.toNat by simp [kdOf,n0,n1,n2,n3,n4,n5]]
      rw [upd_same]
      show some (HO.ins a.cRests dx [("m",V.int m)])=some (HO.ins a.cRests dx [("m",V.int (m.toNat:Int))])
      rw [show ((m.toNat:Nat):Int)=m by omega]
def spShare:Sp:=fun vs H Q _=>∃ t b:Int,vs=[.int t,.int b]∧0≤t∧0 < b∧∀ v H',Same H H'→IsW H' v (shareW t b)→Q v H'
theorem sc_law_share:FnScope ["top","below","one","other","kept"] ["top","below"] (defScope (top 46)):=⟨rfl,rfl,rfl,by decide +kernel,rfl,by decide +kernel,by decide +kernel⟩
theorem d_share (hP:P.given.tree=none) (T:Tx K mg a) (F:DefAt K mg "_law_share" (top 46)):Dn P w K mg base 33 "_law_share" ["top","below"] spShare:=by
  obtain ⟨f,fd,hm,F⟩:=F.ex
  refine ⟨f,fd,hm,F.kp,F.binds fun _ _ _ _ _ _ us hl=>match us,hl with | [_,_],_=>rfl,?_⟩
  refine F.okN sc_law_share (fun vs H Q E h=>?_) (fun cdv A outer s H vs Q E hr h=>?_)
  · obtain ⟨_,_,rfl,_⟩:=h
    rfl
  · obtain ⟨t,b,rfl,ht,hb,q⟩:=h
    have hd:(A.deeper (PyProof.Rows.envOfC "_law_share" (defScope (top 46)) s.heap.objs.size f cdv)).depth + 100 < recursionLimit:=by have:=hr.dp; omega
    refine ⟨_,(pss_cons (ps_set (i:=2) sc_law_share.nd rfl (Or.inl rfl) (pv 0))
      (pss_cons (ps_set (i:=3) sc_law_share.nd rfl (Or.inl rfl) (pv 1))
      (pss_cons (ps_while PassesOwn.never (pt_cmpR op_ne (pv 3) pe_int (nomark _)) (pss_cons (ps_set (i:=4) sc_law_share.nd rfl (Or.inl rfl) (pe_op op_mod (pv 2) (pv 3)))
      (pss_cons (ps_set (i:=2) sc_law_share.nd rfl (Or.inl rfl) (pv 3))
      (pss_one (ps_set (i:=3) sc_law_share.nd rfl (Or.inl rfl) (pv 4))))))
      (pss_one (ps_ret (pe_tup (pa_cons (hs:=st_BinOp) (pe_op (op_fdivA hP hd rfl rfl rfl) (pv 0) (pv 2)) (pa_cons (hs:=st_BinOp) (pe_op (op_fdivA hP hd rfl rfl rfl) (pv 1) (pv 2)) pa_nil)))))))),?_⟩
    refine ⟨_,rfl,_,rfl,?_⟩
    refine ⟨fun m σ H'=>∃ x y l,σ=[some (.int t),some (.int b),some (.int x),some (.int y),l]∧H'=H∧0≤y∧m=y.toNat∧Int.gcd x y=Int.gcd t b∧0≤x,⟨_,t,b,_,rfl,rfl,by omega,rfl,rfl,ht⟩,?_⟩
    rintro m σ H' ⟨x,y,l,rfl,rfl,h0,rfl,hg,hx⟩
    refine ⟨_,rfl,rfl,_,rfl,iteNeI (fun c=>?_) (fun c=>?_)⟩
    · have c:0 < y:=by omega
      refine ⟨fun σ' H'=>_,fun _ _ z=>z,?_⟩
      refine ⟨_,rfl,_,rfl,_,_,rfl,rfl,c,_,rfl,_,rfl,?_⟩
      refine ⟨(x % y).toNat,?_,_,_,_,rfl,rfl,Int.emod_nonneg _ (by omega),rfl,?_,by omega⟩
      · have:=Int.emod_lt_of_pos x c
        have:=Int.emod_nonneg x (show y≠0 by omega)
        omega
      · rw [← hg]
        exact gcd_step x y
    · subst c
      rw [Int.gcd_zero_right] at hg
      obtain rfl:x=(Int.gcd t b:Int):=by rw [← hg]; omega
      have gp:=gcd_pos (a:=t) hb
      refine ⟨_,rfl,_,rfl,_,_,rfl,rfl,gp,_,rfl,_,rfl,_,_,rfl,rfl,gp,(by show 2≤sizeLine; decide),fun p np=>?_⟩
      exact q (.ref p) _ (same_one np) upd_same
def spNone:Sp:=fun vs H Q _=>∃ which:Int,vs=[.int which]∧0≤which∧which < 7∧∀ v H',Same H H'→IsW H' v (noneW which)→Q v H'
def spRest:Sp:=fun vs H Q _=>∃ which:Int,vs=[.int which]∧0≤which∧which < 7∧∀ v H',Same H H'→IsW H' v (restW which)→Q v H'
theorem seven {x:Int} (h0:0≤x) (h7:x < 7):x=0∨x=1∨x=2∨x=3∨x=4∨x=5∨x=6:=by omega
theorem sc_law_none:FnScope ["which"] ["which"] (defScope (top 47)):=⟨rfl,rfl,rfl,by decide +kernel,rfl,by decide +kernel,by decide +kernel⟩
theorem d_none (F:DefAt K mg "_law_none" (top 47)):Dn P w K mg base 1 "_law_none" ["which"] spNone:=by
  obtain ⟨f,fd,hm,F⟩:=F.ex
  refine ⟨f,fd,hm,F.kp,F.binds fun _ _ _ _ _ _ us hl=>match us,hl with | [_],_=>rfl,?_⟩
  refine F.okN sc_law_none (fun vs H Q E h=>?_) (fun cdv A outer s H vs Q E hr h=>?_)
  · obtain ⟨_,rfl,_⟩:=h
    rfl
  · obtain ⟨which,rfl,h0,h7,q⟩:=h
    refine ⟨_,(pss_one (ps_ret (pe_ix ix_list (pe_lst (pa_cons (hs:=st_Constant) pe_non (pa_cons (hs:=st_Constant) pe_int (pa_cons (hs:=st_Constant) pe_int (pa_cons (hs:=st_Tuple) (pe_tup (pa_cons (hs:=st_Constant) pe_int (pa_cons (hs:=st_Constant) pe_int pa_nil))) (pa_cons (hs:=st_Tuple) (pe_tup (pa_cons (hs:=st_Constant) pe_int (pa_cons (hs:=st_Constant) pe_int pa_nil))) (pa_cons (hs:=st_Constant) pe_non (pa_cons (hs:=st_Constant) pe_int pa_nil)))))))) (pv 0) (fun _ _=>rfl)))),?_⟩
    refine ⟨(by show 2≤sizeLine; decide),fun p1 n1=>⟨(by show 2≤sizeLine; decide),fun p2 n2=>⟨(by show 7≤sizeLine; decide),fun l nl=>⟨_,rfl,?_⟩⟩⟩⟩
    have s1:Same H (upd H p1 (.tup [.int 0,.int 1])):=same_one n1
    have s2:=s1.trans (same_one (o:=.tup [.int 0,.int 1]) n2)
    have s3:=s2.trans (same_one (o:=.lst [.non,.int 0,.int 0,.ref p1,.ref p2,.non,.int 0]) nl)
    have e2:=same_one (o:=.lst [.non,.int 0,.int 0,.ref p1,.ref p2,.non,.int 0]) nl p2 _ upd_same
    have e1:=same_one (o:=.lst [.non,.int 0,.int 0,.ref p1,.ref p2,.non,.int 0]) nl p1 _ (same_one (o:=.tup [.int 0,.int 1]) n2 p1 _ upd_same)
    rcases seven h0 h7 with rfl | rfl | rfl | rfl | rfl | rfl | rfl
    · exact ⟨l,_,_,.non,rfl,rfl,SqL.of upd_same,rfl,q _ _ s3 True.intro⟩
    · exact ⟨l,_,_,.int 0,rfl,rfl,SqL.of upd_same,rfl,q _ _ s3 rfl⟩
    · exact ⟨l,_,_,.int 0,rfl,rfl,SqL.of upd_same,rfl,q _ _ s3 rfl⟩
    · exact ⟨l,_,_,.ref p1,rfl,rfl,SqL.of upd_same,rfl,q _ _ s3 e1⟩
    · exact ⟨l,_,_,.ref p2,rfl,rfl,SqL.of upd_same,rfl,q _ _ s3 e2⟩
    · exact ⟨l,_,_,.non,rfl,rfl,SqL.of upd_same,rfl,q _ _ s3 True.intro⟩
    · exact ⟨l,_,_,.int 0,rfl,rfl,SqL.of upd_same,rfl,q _ _ s3 rfl⟩
theorem sc_law_rest:FnScope ["which"] ["which"] (defScope (top 48)):=⟨rfl,rfl,rfl,by decide +kernel,rfl,by decide +kernel,by decide +kernel⟩
theorem d_rest (F:DefAt K mg "_law_rest" (top 48)):Dn P w K mg base 1 "_law_rest" ["which"] spRest:=by
  obtain ⟨f,fd,hm,F⟩:=F.ex
  refine ⟨f,fd,hm,F.kp,F.binds fun _ _ _ _ _ _ us hl=>match us,hl with | [_],_=>rfl,?_⟩
  refine F.okN sc_law_rest (fun vs H Q E h=>?_) (fun cdv A outer s H vs Q E hr h=>?_)
  · obtain ⟨_,rfl,_⟩:=h
    rfl
  · obtain ⟨which,rfl,h0,h7,q⟩:=h
    refine ⟨_,(pss_one (ps_ret (pe_ix ix_list (pe_lst (pa_cons (hs:=st_Constant) pe_int (pa_cons (hs:=st_BinOp) (pe_op op_pow pe_int pe_int) (pa_cons (hs:=st_Constant) pe_int (pa_cons (hs:=st_Tuple) (pe_tup (pa_cons (hs:=st_Constant) pe_int (pa_cons (hs:=st_Constant) pe_int pa_nil))) (pa_cons (hs:=st_Tuple) (pe_tup (pa_cons (hs:=st_Constant) pe_int (pa_cons (hs:=st_Constant) pe_int pa_nil))) (pa_cons (hs:=st_Constant) pe_int (pa_cons (hs:=st_Constant) pe_int pa_nil)))))))) (pv 0) (fun _ _=>rfl)))),?_⟩
    refine ⟨_,_,rfl,rfl,⟨by decide,by decide,by decide⟩,(by show 2≤sizeLine; decide),fun p1 n1=>⟨(by show 2≤sizeLine; decide),fun p2 n2=>⟨(by show 7≤sizeLine; decide),fun l nl=>⟨_,rfl,?_⟩⟩⟩⟩
    have s1:Same H (upd H p1 (.tup [.int 1,.int 1])):=same_one n1
    have s2:=s1.trans (same_one (o:=.tup [.int 1,.int 1]) n2)
    have s3:=s2.trans (same_one (o:=.lst [.int 0,.int (10 ^ (9:Int).toNat),.int 1,.ref p1,.ref p2,.int 0,.int 1]) nl)
    have e2:=same_one (o:=.lst [.int 0,.int (10 ^ (9:Int).toNat),.int 1,.ref p1,.ref p2,.int 0,.int 1]) nl p2 _ upd_same
    have e1:=same_one (o:=.lst [.int 0,.int (10 ^ (9:Int).toNat),.int 1,.ref p1,.ref p2,.int 0,.int 1]) nl p1 _ (same_one (o:=.tup [.int 1,.int 1]) n2 p1 _ upd_same)
    rcases seven h0 h7 with rfl | rfl | rfl | rfl | rfl | rfl | rfl
    · exact ⟨l,_,_,.int 0,rfl,rfl,SqL.of upd_same,rfl,q _ _ s3 rfl⟩
    · exact ⟨l,_,_,.int (10 ^ (9:Int).toNat),rfl,rfl,SqL.of upd_same,rfl,q _ _ s3 rfl⟩
    · exact ⟨l,_,_,.int 1,rfl,rfl,SqL.of upd_same,rfl,q _ _ s3 rfl⟩
    · exact ⟨l,_,_,.ref p1,rfl,rfl,SqL.of upd_same,rfl,q _ _ s3 e1⟩
    · exact ⟨l,_,_,.ref p2,rfl,rfl,SqL.of upd_same,rfl,q _ _ s3 e2⟩
    · exact ⟨l,_,_,.int 0,rfl,rfl,SqL.of upd_same,rfl,q _ _ s3 rfl⟩
    · exact ⟨l,_,_,.int 1,rfl,rfl,SqL.of upd_same,rfl,q _ _ s3 rfl⟩
def spWorth:Sp:=fun vs H Q _=>∃ which m cell:Int,vs=[.int which,.int m,.int cell]∧0≤which∧which < 7∧1≤m∧m≤12∧∀ v H',Same H H'→IsW H' v (worthW which m cell)→Q v H'
theorem sc_law_worth:FnScope ["which","m","cell","left","below"] ["which","m","cell"] (defScope (top 51)):=⟨rfl,rfl,rfl,by decide +kernel,rfl,by decide +kernel,by decide +kernel⟩
theorem p6:(0:Int) < 6:=by decide
theorem d_worth (T:Tx K mg a) (D_law_none:Dn P w K mg base 1 "_law_none" ["which"] spNone) (D_law_rest:Dn P w K mg base 1 "_law_rest" ["which"] spRest) (D_law_share:Dn P w K mg base 33 "_law_share" ["top","below"] spShare)
    (F:DefAt K mg "_law_worth" (top 51)):Dn P w K mg base 34 "_law_worth" ["which","m","cell"] spWorth:=by
  obtain ⟨f,fd,hm,F⟩:=F.ex
  refine ⟨f,fd,hm,F.kp,F.binds fun _ _ _ _ _ _ us hl=>match us,hl with | [_,_,_],_=>rfl,?_⟩
  refine F.okN sc_law_worth (fun vs H Q E h=>?_) (fun cdv A outer s H vs Q E hr h=>?_)
  · obtain ⟨_,_,_,rfl,_⟩:=h
    rfl
  · obtain ⟨which,m,cell,rfl,h0,h7,m1,m2,q⟩:=h
    refine ⟨_,(pss_cons (ps_set (i:=3) sc_law_worth.nd rfl (Or.inl rfl) (pe_op op_fdivX (pv 2) pe_int))
      (pss_cons (ps_if (pt_cmpR op_eq (pe_op op_mod (pv 2) pe_int) pe_int (nomark _)) (pss_one (ps_ret (pe_callD D_law_none (hr.mono (by decide)) rfl passE0 (pa_cons (hs:=st_Name) (pv 0) pa_nil)))) pss_nil)
      (pss_cons (ps_if (pt_cmpR op_eq (pe_op op_mod (pv 2) pe_int) pe_int (nomark _)) (pss_one (ps_ret (pe_callD D_law_rest (hr.mono (by decide)) rfl passE0 (pa_cons (hs:=st_Name) (pv 0) pa_nil)))) pss_nil)
      (pss_cons (ps_if (pt_cmpR op_eq (pv 0) pe_int (nomark _)) (pss_one (ps_ret (pe_ifExp (pt_cmpR op_lt (pe_op op_mod (pv 2) pe_int) pe_int (nomark _)) (pe_op op_mod (pv 3) pe_int) (pe_op op_mod (pv 3) (pe_op op_pow pe_int pe_int))))) pss_nil)
      (pss_cons (ps_if (pt_cmpR op_eq (pv 0) pe_int (nomark _)) (pss_one (ps_ret (pe_ifExp (pt_cmpR op_lt (pe_op op_mod (pv 2) pe_int) pe_int (nomark _)) (pe_op op_mod (pv 3) pe_int) (pe_op op_mod (pv 3) (pe_op op_add (pe_op op_pow pe_int pe_int) pe_int))))) pss_nil)
      (pss_cons (ps_if (pt_cmpR op_eq (pv 0) pe_int (nomark _)) (pss_one (ps_ret (pe_ifExp (pt_cmpR op_lt (pe_op op_mod (pv 2) pe_int) pe_int (nomark _)) (pe_op op_sub (pe_op op_mod (pv 3) pe_int) pe_int) (pe_op op_mod (pv 3) (pe_op op_pow pe_int pe_int))))) pss_nil)
      (pss_cons (ps_if (pt_cmpR op_eq (pv 0) pe_int (nomark _)) (pss_cons (ps_set (i:=4) sc_law_worth.nd rfl (Or.inl rfl) (pe_op op_add pe_int (pe_op op_mod (pe_op op_fdivX (pv 3) pe_int) pe_int)))
      (pss_one (ps_ret (pe_callD D_law_share (hr.mono (by decide)) rfl passE0 (pa_cons (hs:=st_BinOp) (pe_op op_mod (pv 3) (pe_op op_add (pv 4) pe_int)) (pa_cons (hs:=st_Name) (pv 4) pa_nil)))))) pss_nil)
      (pss_cons (ps_if (pt_cmpR op_eq (pv 0) pe_int (nomark _)) (pss_one (ps_ret (pe_callD D_law_share (hr.mono (by decide)) rfl passE0 (pa_cons (hs:=st_BinOp) (pe_op op_mod (pv 3) pe_int) (pa_cons (hs:=st_BinOp) (pe_op op_add pe_int (pe_op op_mod (pe_op op_fdivX (pv 3) pe_int) pe_int)) pa_nil))))) pss_nil)
      (pss_cons (ps_if (pt_cmpR op_eq (pv 0) pe_int (nomark _)) (pss_one (ps_ret (pe_ifExp (pt_cmpR op_lt (pe_op op_mod (pv 2) pe_int) pe_int (nomark _)) (pe_op op_mod (pv 3) pe_int) (pe_op op_mod (pv 3) (pe_op op_pow pe_int pe_int))))) pss_nil)
      (pss_one (ps_ret (pe_op op_mod (pv 3) (pe_op op_shl pe_int (pv 1)))))))))))))),?_⟩
    have qi:∀ i:Int,worthW which m cell=.int i→Q (.int i) H:=fun i e=>q _ _ (Same.refl H) (by rw [e]; exact rfl)
    refine ⟨_,rfl,_,_,rfl,rfl,⟨by decide,by decide⟩,?_⟩
    refine ⟨_,rfl,_,_,rfl,rfl,p6,rfl,_,rfl,iteEqI (fun e=>?_) (fun c1=>?_)⟩
    · exact ⟨_,rfl,which,rfl,h0,h7,fun v H' s' w'=>q v H' s' (by rw [show worthW which m cell=noneW which by simp [worthW,e]]; exact w')⟩
    refine ⟨_,rfl,_,_,rfl,rfl,p6,rfl,_,rfl,iteEqI (fun e=>?_) (fun c2=>?_)⟩
    · exact ⟨_,rfl,which,rfl,h0,h7,fun v H' s' w'=>q v H' s' (by rw [show worthW which m cell=restW which by simp [worthW,e]]; exact w')⟩
    refine ⟨_,rfl,rfl,_,rfl,iteEqI (fun e=>?_) (fun n0=>?_)⟩
    · refine ⟨_,rfl,_,_,rfl,rfl,p6,_,_,rfl,rfl,_,rfl,iteD (fun c=>?_) (fun c=>?_)⟩
      · exact ⟨_,rfl,_,_,rfl,rfl,(by show (0:Int) < 20; decide),qi _ (by simp [worthW,c1,c2,e,c])⟩
      · exact ⟨_,rfl,_,_,rfl,rfl,⟨by decide,by decide,by decide⟩,_,_,rfl,rfl,(by show (0:Int) < 10 ^ 30; decide),qi _ (by simp [worthW,c1,c2,e,c])⟩
    refine ⟨_,rfl,rfl,_,rfl,iteEqI (fun e=>?_) (fun n1=>?_)⟩
    · refine ⟨_,rfl,_,_,rfl,rfl,p6,_,_,rfl,rfl,_,rfl,iteD (fun c=>?_) (fun c=>?_)⟩
      · exact ⟨_,rfl,_,_,rfl,rfl,(by show (0:Int) < 20; decide),qi _ (by simp [worthW,c1,c2,e,c])⟩
      · exact ⟨_,rfl,_,_,rfl,rfl,⟨by decide,by decide,by decide⟩,_,_,rfl,rfl,_,_,rfl,rfl,(by show (0:Int) < 10 ^ 9 + 1; decide),qi _ (by simp [worthW,c1,c2,e,c])⟩
    refine ⟨_,rfl,rfl,_,rfl,iteEqI (fun e=>?_) (fun n2=>?_)⟩
    · refine ⟨_,rfl,_,_,rfl,rfl,p6,_,_,rfl,rfl,_,rfl,iteD (fun c=>?_) (fun c=>?_)⟩
      · exact ⟨_,rfl,_,_,rfl,rfl,(by show (0:Int) < 5; decide),_,_,rfl,rfl,qi _ (by simp [worthW,c1,c2,e,c])⟩
      · exact ⟨_,rfl,_,_,rfl,rfl,⟨by decide,by decide,by decide⟩,_,_,rfl,rfl,(by show (0:Int) < 10 ^ 30; decide),qi _ (by simp [worthW,c1,c2,e,c])⟩
    refine ⟨_,rfl,rfl,_,rfl,iteEqI (fun e=>?_) (fun n3=>?_)⟩
    · refine ⟨_,rfl,_,_,rfl,rfl,⟨by decide,by decide⟩,_,_,rfl,rfl,(by show (0:Int) < 12; decide),_,_,rfl,rfl,?_⟩
      have b1:0≤cell / 6 / 7 % 12:=Int.emod_nonneg _ (by decide)
      have b2:cell / 6 / 7 % 12 < 12:=Int.emod_lt_of_pos _ (by decide)
      refine ⟨_,rfl,_,rfl,_,_,rfl,rfl,_,_,rfl,rfl,(by show (0:Int) < 1 + cell / 6 / 7 % 12 + 1; omega),_,rfl,_,_,rfl,Int.emod_nonneg _ (by omega),by omega,fun v H' s' w'=>q v H' s' ?_⟩
      rw [show worthW which m cell=shareW (cell / 6 % (1 + cell / 6 / 7 % 12 + 1)) (1 + cell / 6 / 7 % 12) by simp [worthW,c1,c2,e]]
      exact w'
    refine ⟨_,rfl,rfl,_,rfl,iteEqI (fun e=>?_) (fun n4=>?_)⟩
    · have b1:0≤cell / 6 / 9 % 12:=Int.emod_nonneg _ (by decide)
      have b2:cell / 6 / 9 % 12 < 12:=Int.emod_lt_of_pos _ (by decide)
      refine ⟨_,rfl,_,_,rfl,rfl,(by show (0:Int) < 9; decide),_,rfl,_,_,rfl,rfl,⟨by decide,by decide⟩,_,_,rfl,rfl,(by show (0:Int) < 12; decide),_,_,rfl,rfl,_,_,rfl,Int.emod_nonneg _ (by decide),by omega,fun v H' s' w'=>q v H' s' ?_⟩
      rw [show worthW which m cell=shareW (cell / 6 % 9) (1 + cell / 6 / 9 % 12) by simp [worthW,c1,c2,e]]
      exact w'
    refine ⟨_,rfl,rfl,_,rfl,iteEqI (fun e=>?_) (fun n5=>?_)⟩
    · refine ⟨_,rfl,_,_,rfl,rfl,p6,_,_,rfl,rfl,_,rfl,iteD (fun c=>?_) (fun c=>?_)⟩
      · exact ⟨_,rfl,_,_,rfl,rfl,(by show (0:Int) < 16; decide),qi _ (by simp [worthW,c1,c2,e,c])⟩
      · exact ⟨_,rfl,_,_,rfl,rfl,⟨by decide,by decide,by decide⟩,_,_,rfl,rfl,(by show (0:Int) < 10 ^ 30; decide),qi _ (by simp [worthW,c1,c2,e,c])⟩
    have p:(0:Int) < 1 * 2 ^ m.toNat:=by rw [Int.one_mul]; exact Int.pow_pos (by decide)
    exact ⟨_,rfl,_,rfl,_,_,rfl,rfl,⟨by omega,by omega,by decide⟩,_,_,rfl,rfl,p,qi _ (by simp [worthW,c1,c2,n0,n1,n2,n3,n4,n5])⟩
theorem kdOf_ok {which m:Int} (m1:1≤m) (m2:m≤12):KdOk (kdOf which m):=by
  unfold kdOf
  repeat' split
  all_goals first | trivial | exact ⟨by omega,by omega⟩
def spLaw (K:PySem.W.Frag):Sp:=fun vs H Q _=>∃ (sa:Addr) (ns:List Int),vs=[.ref sa]∧SqL K H sa (ns.map V.int)∧ns.length≤63∧∀ H',Q (.bl true) H'
end
end K13
namespace K13
open PySem L2 Ws
seal PE PT PW PA PC PS PSs PG PGs PI PO
section
variable {P : Program} {w : World} {K : PySem.W.Frag} {mg : Str → Option Value} {base : Heap} {a : Adr}
theorem hasK (kd:Kd):HasK kd:=by cases kd <;> trivial
theorem kfs_no (kd:Kd) {x:Str} (h:(x == ("m":Str))=false):(kfs kd).lookup x=none:=by
  cases kd <;> first | rfl | (simp only [kfs,List.lookup,h])
theorem counted_is {H:Hp} {v:V} {x:Car .counted} (h:IsW H v (enc .counted x)):∃ i:Int,v=.int i∧enc .counted x=.int i∧((i=-1∧x=none)∨∃ n:Nat,i=n∧x=some n):=by
  rcases x with _ | n
  · exact ⟨_,isW_int h,rfl,.inl ⟨rfl,rfl⟩⟩
  · exact ⟨_,isW_int h,rfl,.inr ⟨n,rfl,rfl⟩⟩
theorem counted_zero {x y:Option Nat} {i:Int} (hx:(i=-1∧x=none)∨∃ n:Nat,i=n∧x=some n) (z:i=0):enc .counted (oMul x y)=.int 0:=by
  obtain ⟨n,e,rfl⟩:=hx.resolve_left (fun e=>by omega)
  obtain rfl:n=0:=by omega
  rw [oMul_zero]; rfl
theorem counted_endless {x y:Option Nat} {i j:Int} (hx:(i=-1∧x=none)∨∃ n:Nat,i=n∧x=some n) (hy:(j=-1∧y=none)∨∃ n:Nat,j=n∧y=some n) (zi:i≠0) (zj:j≠0) (h:i=-1∨j=-1) :
    enc .counted (oMul x y)=.int (-1):=by
  rcases hx with ⟨_,rfl⟩ | ⟨n,e,rfl⟩
  · rcases hy with ⟨_,rfl⟩ | ⟨k,e',rfl⟩
    · rfl
    · obtain ⟨k,rfl⟩:∃ l,k=l + 1:=⟨k - 1,by omega⟩
      rfl
  · rcases hy with ⟨_,rfl⟩ | ⟨k,e',rfl⟩
    · obtain ⟨n,rfl⟩:∃ l,n=l + 1:=⟨n - 1,by omega⟩
      rfl
    · omega
theorem counted_prod {x y:Option Nat} {i j:Int} (hx:(i=-1∧x=none)∨∃ n:Nat,i=n∧x=some n) (hy:(j=-1∧y=none)∨∃ n:Nat,j=n∧y=some n) (zi:i≠-1) (zj:j≠-1) :
    enc .counted (oMul x y)=.int (i * j):=by
  obtain ⟨n,rfl,rfl⟩:=hx.resolve_left (fun e=>zi e.1)
  obtain ⟨k,rfl,rfl⟩:=hy.resolve_left (fun e=>zj e.1)
  rw [oMul_some]
  show Wd.int ((n * k:Nat):Int)=_
  rw [Int.natCast_mul]
def spLowest:Sp:=fun vs H Q _=>∃ t b:Int,vs=[.int t,.int b]∧0 < b∧∀ v H',Same H H'→IsW H' v (shareW t b)→Q v H'
theorem sc_lowest:FnScope ["first","second","common"] ["first","second"] (defScope (top 10)):=⟨rfl,rfl,rfl,by decide +kernel,rfl,by decide +kernel,by decide +kernel⟩
theorem d_lowest (hP:P.given.tree=none) (D_divisor:Dn P w K mg base 1 "divisor" ["first","second"] spDivisor) (F:DefAt K mg "lowest" (top 10)):Dn P w K mg base 33 "lowest" ["first","second"] spLowest:=by
  obtain ⟨f,fd,hm,F⟩:=F.ex
  refine ⟨f,fd,hm,F.kp,F.binds fun _ _ _ _ _ _ us hl=>match us,hl with | [_,_],_=>rfl,?_⟩
  refine F.okN sc_lowest (fun vs H Q E h=>?_) (fun cdv A outer s H vs Q E hr h=>?_)
  · obtain ⟨_,_,rfl,_⟩:=h
    rfl
  · obtain ⟨t,b,rfl,hb,q⟩:=h
    have hd:(A.deeper (PyProof.Rows.envOfC "lowest" (defScope (top 10)) s.heap.objs.size f cdv)).depth + 100 < recursionLimit:=by have:=hr.dp; omega
    refine ⟨_,(pss_cons (ps_set (i:=2) sc_lowest.nd rfl (Or.inl rfl) (pe_callD D_divisor (hr.mono (by decide)) rfl passE0 (pa_cons (hs:=st_Name) (pv 0) (pa_cons (hs:=st_Name) (pv 1) pa_nil))))
      (pss_one (ps_ret (pe_tup (pa_cons (hs:=st_BinOp) (pe_op (op_fdivA hP hd rfl rfl rfl) (pv 0) (pv 2)) (pa_cons (hs:=st_BinOp) (pe_op (op_fdivA hP hd rfl rfl rfl) (pv 1) (pv 2)) pa_nil)))))),?_⟩
    have gp:=gcd_pos (a:=t) hb
    refine ⟨_,rfl,_,rfl,t,b,rfl,hb,?_⟩
    refine ⟨_,rfl,_,rfl,_,_,rfl,rfl,gp,_,rfl,_,rfl,_,_,rfl,rfl,gp,(by show 2≤sizeLine; decide),fun p np=>?_⟩
    exact q (.ref p) _ (same_one np) upd_same
def spTwo (f:Rat→Rat→Rat):Sp:=fun vs H Q _=>∃ (v1 v2:V) (p q:Rat),vs=[v1,v2]∧IsW H v1 (ofR p)∧IsW H v2 (ofR q)∧Sm Big (ofR p)∧Sm Big (ofR q)∧∀ v H',Same H H'→IsW H' v (ofR (f p q))→Q v H'
theorem sc_added:FnScope ["one","other"] ["one","other"] (defScope (top 11)):=⟨rfl,rfl,rfl,by decide +kernel,rfl,by decide +kernel,by decide +kernel⟩
theorem d_added (D_lowest:Dn P w K mg base 33 "lowest" ["first","second"] spLowest) (F:DefAt K mg "added" (top 11)):Dn P w K mg base 34 "added" ["one","other"] (spTwo fun p q=>p + q):=by
  obtain ⟨f,fd,hm,F⟩:=F.ex
  refine ⟨f,fd,hm,F.kp,F.binds fun _ _ _ _ _ _ us hl=>match us,hl with | [_,_],_=>rfl,?_⟩
  refine F.okN sc_added (fun vs H Q E h=>?_) (fun cdv A outer s H vs Q E hr h=>?_)
  · obtain ⟨_,_,_,_,rfl,_⟩:=h
    rfl
  · obtain ⟨v1,v2,p,q,rfl,h1,h2,s1,s2,k⟩:=h
    obtain ⟨r1,rfl,e1⟩:=isW_pair h1
    obtain ⟨r2,rfl,e2⟩:=isW_pair h2
    refine ⟨_,(pss_one (ps_ret (pe_callD D_lowest (hr.mono (by decide)) rfl passE0 (pa_cons (hs:=st_BinOp) (pe_op op_add (pe_op op_mulX (pe_ix ix_tup (pv 0) pe_int (fun _ _=>rfl)) (pe_ix ix_tup (pv 1) pe_int (fun _ _=>rfl))) (pe_op op_mulX (pe_ix ix_tup (pv 1) pe_int (fun _ _=>rfl)) (pe_ix ix_tup (pv 0) pe_int (fun _ _=>rfl)))) (pa_cons (hs:=st_BinOp) (pe_op op_mulX (pe_ix ix_tup (pv 0) pe_int (fun _ _=>rfl)) (pe_ix ix_tup (pv 1) pe_int (fun _ _=>rfl))) pa_nil))))),?_⟩
    refine ⟨_,rfl,r1,_,_,_,rfl,rfl,SqT.of e1,rfl,_,rfl,r2,_,_,_,rfl,rfl,SqT.of e2,rfl,_,_,rfl,rfl,big_mul s1.1 s2.2,?_⟩
    refine ⟨_,rfl,r2,_,_,_,rfl,rfl,SqT.of e2,rfl,_,rfl,r1,_,_,_,rfl,rfl,SqT.of e1,rfl,_,_,rfl,rfl,big_mul s2.1 s1.2,_,_,rfl,rfl,?_⟩
    refine ⟨_,rfl,r1,_,_,_,rfl,rfl,SqT.of e1,rfl,_,rfl,r2,_,_,_,rfl,rfl,SqT.of e2,rfl,_,_,rfl,rfl,big_mul s1.2 s2.2,?_⟩
    refine ⟨_,_,rfl,Int.mul_pos (den_pos p) (den_pos q),fun v H' s' hv=>k v H' s' ?_⟩
    rw [add_shareW] at hv
    exact hv
theorem sc_multiplied:FnScope ["one","other","left","right"] ["one","other"] (defScope (top 12)):=⟨rfl,rfl,rfl,by decide +kernel,rfl,by decide +kernel,by decide +kernel⟩
theorem d_multiplied (D_lowest:Dn P w K mg base 33 "lowest" ["first","second"] spLowest) (F:DefAt K mg "multiplied" (top 12)):Dn P w K mg base 34 "multiplied" ["one","other"] (spTwo fun p q=>p * q):=by
  obtain ⟨f,fd,hm,F⟩:=F.ex
  refine ⟨f,fd,hm,F.kp,F.binds fun _ _ _ _ _ _ us hl=>match us,hl with | [_,_],_=>rfl,?_⟩
  refine F.okN sc_multiplied (fun vs H Q E h=>?_) (fun cdv A outer s H vs Q E hr h=>?_)
  · obtain ⟨_,_,_,_,rfl,_⟩:=h
    rfl
  · obtain ⟨v1,v2,p,q,rfl,h1,h2,s1,s2,k⟩:=h
    obtain ⟨r1,rfl,e1⟩:=isW_pair h1
    obtain ⟨r2,rfl,e2⟩:=isW_pair h2
    refine ⟨_,(pss_cons (ps_set (i:=2) sc_multiplied.nd rfl (Or.inl rfl) (pe_callD D_lowest (hr.mono (by decide)) rfl passE0 (pa_cons (hs:=st_Subscript) (pe_ix ix_tup (pv 0) pe_int (fun _ _=>rfl)) (pa_cons (hs:=st_Subscript) (pe_ix ix_tup (pv 1) pe_int (fun _ _=>rfl)) pa_nil))))
      (pss_cons (ps_set (i:=3) sc_multiplied.nd rfl (Or.inl rfl) (pe_callD D_lowest (hr.mono (by decide)) rfl passE0 (pa_cons (hs:=st_Subscript) (pe_ix ix_tup (pv 1) pe_int (fun _ _=>rfl)) (pa_cons (hs:=st_Subscript) (pe_ix ix_tup (pv 0) pe_int (fun _ _=>rfl)) pa_nil))))
      (pss_one (ps_ret (pe_tup (pa_cons (hs:=st_BinOp) (pe_op op_mulX (pe_ix ix_tup (pv 2) pe_int (fun _ _=>rfl)) (pe_ix ix_tup (pv 3) pe_int (fun _ _=>rfl))) (pa_cons (hs:=st_BinOp) (pe_op op_mulX (pe_ix ix_tup (pv 2) pe_int (fun _ _=>rfl)) (pe_ix ix_tup (pv 3) pe_int (fun _ _=>rfl))) pa_nil))))))),?_⟩
    refine ⟨_,rfl,r1,_,_,_,rfl,rfl,SqT.of e1,rfl,_,rfl,r2,_,_,_,rfl,rfl,SqT.of e2,rfl,_,_,rfl,den_pos q,fun v3 H3 s3 h3=>?_⟩
    obtain ⟨r3,rfl,e3⟩:=isW_pair h3
    refine ⟨_,rfl,r2,_,_,_,rfl,rfl,SqT.of (s3 _ _ e2),rfl,_,rfl,r1,_,_,_,rfl,rfl,SqT.of (s3 _ _ e1),rfl,_,_,rfl,den_pos p,fun v4 H4 s4 h4=>?_⟩
    obtain ⟨r4,rfl,e4⟩:=isW_pair h4
    have sm:∀ {i j:Int},Builtin.Int.intBits i≤Big→Builtin.Int.intBits (i / j)≤Big:=fun {i j} h=>intBits_le_of_natAbs (Int.natAbs_ediv_le_natAbs i j) h
    refine ⟨_,rfl,r3,_,_,_,rfl,rfl,SqT.of (s4 _ _ e3),rfl,_,rfl,r4,_,_,_,rfl,rfl,SqT.of e4,rfl,_,_,rfl,rfl,big_mul (sm s1.1) (sm s2.1),?_⟩
    refine ⟨_,rfl,r3,_,_,_,rfl,rfl,SqT.of (s4 _ _ e3),rfl,_,rfl,r4,_,_,_,rfl,rfl,SqT.of e4,rfl,_,_,rfl,rfl,big_mul (sm s2.2) (sm s1.2),(by show 2≤sizeLine; decide),fun p5 np=>?_⟩
    refine k (.ref p5) _ ((s3.trans s4).trans (same_one np)) ?_
    show IsW _ _ (ofR (p * q))
    rw [← mul_cross]
    exact upd_same
theorem sc_greater:FnScope ["one","other"] ["one","other"] (defScope (top 13)):=⟨rfl,rfl,rfl,by decide +kernel,rfl,by decide +kernel,by decide +kernel⟩
theorem d_greater (F:DefAt K mg "greater" (top 13)):Dn P w K mg base 1 "greater" ["one","other"] (spTwo rmax):=by
  obtain ⟨f,fd,hm,F⟩:=F.ex
  refine ⟨f,fd,hm,F.kp,F.binds fun _ _ _ _ _ _ us hl=>match us,hl with | [_,_],_=>rfl,?_⟩
  refine F.okN sc_greater (fun vs H Q E h=>?_) (fun cdv A outer s H vs Q E hr h=>?_)
  · obtain ⟨_,_,_,_,rfl,_⟩:=h
    rfl
  · obtain ⟨v1,v2,p,q,rfl,h1,h2,s1,s2,k⟩:=h
    obtain ⟨r1,rfl,e1⟩:=isW_pair h1
    obtain ⟨r2,rfl,e2⟩:=isW_pair h2
    refine ⟨_,(pss_cons (ps_if (pt_cmpR op_lt (pe_op op_mulX (pe_ix ix_tup (pv 0) pe_int (fun _ _=>rfl)) (pe_ix ix_tup (pv 1) pe_int (fun _ _=>rfl))) (pe_op op_mulX (pe_ix ix_tup (pv 1) pe_int (fun _ _=>rfl)) (pe_ix ix_tup (pv 0) pe_int (fun _ _=>rfl))) (nomark _)) (pss_one (ps_ret (pv 1))) pss_nil)
      (pss_one (ps_ret (pv 0)))),?_⟩
    refine ⟨_,rfl,r1,_,_,_,rfl,rfl,SqT.of e1,rfl,_,rfl,r2,_,_,_,rfl,rfl,SqT.of e2,rfl,_,_,rfl,rfl,big_mul s1.1 s2.2,?_⟩
    refine ⟨_,rfl,r2,_,_,_,rfl,rfl,SqT.of e2,rfl,_,rfl,r1,_,_,_,rfl,rfl,SqT.of e1,rfl,_,_,rfl,rfl,big_mul s2.1 s1.2,_,_,rfl,rfl,_,rfl,?_⟩
    refine iteD (fun c=>?_) (fun c=>?_)
    · refine ⟨_,rfl,k _ _ (Same.refl H) ?_⟩
      show IsW H _ (ofR (rmax p q))
      rw [show rmax p q=q from if_pos ((lt_cross p q).mp c)]
      exact h2
    · refine ⟨_,rfl,k _ _ (Same.refl H) ?_⟩
      show IsW H _ (ofR (rmax p q))
      rw [show rmax p q=p from if_neg (fun z=>c ((lt_cross p q).mpr z))]
      exact h1
def spLack:Sp:=fun vs H Q _=>∃ (v:V) (p:Rat),vs=[v]∧IsW H v (ofR p)∧∀ v H',Same H H'→IsW H' v (ofR (1 - p))→Q v H'
theorem sc_lacking_to_one:FnScope ["share"] ["share"] (defScope (top 14)):=⟨rfl,rfl,rfl,by decide +kernel,rfl,by decide +kernel,by decide +kernel⟩
theorem d_lacking (D_lowest:Dn P w K mg base 33 "lowest" ["first","second"] spLowest) (F:DefAt K mg "lacking_to_one" (top 14)):Dn P w K mg base 34 "lacking_to_one" ["share"] spLack:=by
  obtain ⟨f,fd,hm,F⟩:=F.ex
  refine ⟨f,fd,hm,F.kp,F.binds fun _ _ _ _ _ _ us hl=>match us,hl with | [_],_=>rfl,?_⟩
  refine F.okN sc_lacking_to_one (fun vs H Q E h=>?_) (fun cdv A outer s H vs Q E hr h=>?_)
  · obtain ⟨_,_,rfl,_⟩:=h
    rfl
  · obtain ⟨v,p,rfl,h1,k⟩:=h
    obtain ⟨r1,rfl,e1⟩:=isW_pair h1
    refine ⟨_,(pss_one (ps_ret (pe_callD D_lowest (hr.mono (by decide)) rfl passE0 (pa_cons (hs:=st_BinOp) (pe_op op_sub (pe_ix ix_tup (pv 0) pe_int (fun _ _=>rfl)) (pe_ix ix_tup (pv 0) pe_int (fun _ _=>rfl))) (pa_cons (hs:=st_Subscript) (pe_ix ix_tup (pv 0) pe_int (fun _ _=>rfl)) pa_nil))))),?_⟩
    refine ⟨_,rfl,r1,_,_,_,rfl,rfl,SqT.of e1,rfl,_,rfl,r1,_,_,_,rfl,rfl,SqT.of e1,rfl,_,_,rfl,rfl,?_⟩
    refine ⟨_,rfl,r1,_,_,_,rfl,rfl,SqT.of e1,rfl,?_⟩
    refine ⟨_,_,rfl,den_pos p,fun v H' s' hv=>k v H' s' ?_⟩
    rw [lack_shareW] at hv
    exact hv
theorem cpow_nat {r b:Nat} (h:r < 2 ^ 12) (hb:b≤12):CPow (r:Int) (b:Int):=by
  have:(2:Nat) ^ 12 < 2 ^ 64:=by decide
  exact ⟨by omega,by omega,by rw [Int.natAbs_natCast]; omega⟩
theorem cpow_one {b:Nat} (hb:b≤12):CPow 1 (b:Int):=⟨by omega,by omega,by decide⟩
def spRaised:Sp:=fun vs H Q _=>∃ r b m:Nat,vs=[.int r,.int b,.int m]∧r < 2 ^ 12∧b≤12∧m≤12∧Q (.int (raisedN m r b:Nat)) H
theorem sc_raised:FnScope ["rests","by","m","pushed"] ["rests","by","m"] (defScope (top 19)):=⟨rfl,rfl,rfl,by decide +kernel,rfl,by decide +kernel,by decide +kernel⟩
theorem d_raised (F:DefAt K mg "raised" (top 19)):Dn P w K mg base 1 "raised" ["rests","by","m"] spRaised:=by
  obtain ⟨f,fd,hm,F⟩:=F.ex
  refine ⟨f,fd,hm,F.kp,F.binds fun _ _ _ _ _ _ us hl=>match us,hl with | [_,_,_],_=>rfl,?_⟩
  refine F.okN sc_raised (fun vs H Q E h=>?_) (fun cdv A outer s H vs Q E hr h=>?_)
  · obtain ⟨_,_,_,rfl,_⟩:=h
    rfl
  · obtain ⟨r,b,m,rfl,h1,h2,h3,q⟩:=h
    refine ⟨_,(pss_cons (ps_set (i:=3) sc_raised.nd rfl (Or.inl rfl) (pe_op op_shl (pv 0) (pv 1)))
      (pss_one (ps_ret (pe_op op_or (pe_op op_and (pv 3) (pe_op op_sub (pe_op op_shl pe_int (pv 2)) pe_int)) (pe_op op_shr (pv 3) (pv 2)))))),?_⟩
    refine ⟨_,rfl,_,rfl,_,_,rfl,rfl,cpow_nat h1 h2,?_⟩
    refine ⟨_,rfl,_,rfl,_,_,rfl,rfl,cpow_one h3,_,_,rfl,rfl,_,_,rfl,rfl,_,rfl,_,rfl,_,_,rfl,rfl,Int.natCast_nonneg m,_,_,rfl,rfl,?_⟩
    dsimp only
    rw [mask_nat,shl_nat,bitAnd_nat,shr_nat,bitOr_nat]
    exact q
end
end K13
namespace K13
open PySem L2 Ws
seal PE PT PW PA PC PS PSs PG PGs PI PO
section
variable {P : Program} {w : World} {K : PySem.W.Frag} {mg : Str → Option Value} {base : Heap} {a : Adr}
def spZero (a:Adr) (kd:Kd):Sp:=fun vs H Q _=>∃ (p:Addr) (ok:KdOk kd),vs=[.ref p]∧KindAt a H p kd∧∀ v H',Same H H'→IsW H' v (enc kd (ks kd ok).zero)→Q v H'
def spOne (a:Adr) (kd:Kd):Sp:=fun vs H Q _=>∃ (p:Addr) (ok:KdOk kd),vs=[.ref p]∧KindAt a H p kd∧∀ v H',Same H H'→IsW H' v (enc kd (ks kd ok).one)→Q v H'
theorem sc_Fewest_none:FnScope ["self"] ["self"] (defScope (inClass (top 21) 0)):=⟨rfl,rfl,rfl,by decide +kernel,rfl,by decide +kernel,by decide +kernel⟩
theorem sc_Widest_none:FnScope ["self"] ["self"] (defScope (inClass (top 22) 0)):=⟨rfl,rfl,rfl,by decide +kernel,rfl,by decide +kernel,by decide +kernel⟩
theorem sc_Counted_none:FnScope ["self"] ["self"] (defScope (inClass (top 23) 0)):=⟨rfl,rfl,rfl,by decide +kernel,rfl,by decide +kernel,by decide +kernel⟩
theorem sc_Likeliest_none:FnScope ["self"] ["self"] (defScope (inClass (top 24) 0)):=⟨rfl,rfl,rfl,by decide +kernel,rfl,by decide +kernel,by decide +kernel⟩
theorem sc_Chances_none:FnScope ["self"] ["self"] (defScope (inClass (top 25) 0)):=⟨rfl,rfl,rfl,by decide +kernel,rfl,by decide +kernel,by decide +kernel⟩
theorem sc_Musts_none:FnScope ["self"] ["self"] (defScope (inClass (top 26) 0)):=⟨rfl,rfl,rfl,by decide +kernel,rfl,by decide +kernel,by decide +kernel⟩
theorem sc_Rests_none:FnScope ["self"] ["self"] (defScope (inClass (top 27) 1)):=⟨rfl,rfl,rfl,by decide +kernel,rfl,by decide +kernel,by decide +kernel⟩
structure At_none (K:PySem.W.Frag) (a:Adr):Prop where
  fFewest:MthAt K a.cFewest "none" "Fewest.none" (inClass (top 21) 0)
  fWidest:MthAt K a.cWidest "none" "Widest.none" (inClass (top 22) 0)
  fCounted:MthAt K a.cCounted "none" "Counted.none" (inClass (top 23) 0)
  fLikeliest:MthAt K a.cLikeliest "none" "Likeliest.none" (inClass (top 24) 0)
  fChances:MthAt K a.cChances "none" "Chances.none" (inClass (top 25) 0)
  fMusts:MthAt K a.cMusts "none" "Musts.none" (inClass (top 26) 0)
  fRests:MthAt K a.cRests "none" "Rests.none" (inClass (top 27) 1)
theorem sc_Fewest_rest:FnScope ["self"] ["self"] (defScope (inClass (top 21) 1)):=⟨rfl,rfl,rfl,by decide +kernel,rfl,by decide +kernel,by decide +kernel⟩
theorem sc_Widest_rest:FnScope ["self"] ["self"] (defScope (inClass (top 22) 1)):=⟨rfl,rfl,rfl,by decide +kernel,rfl,by decide +kernel,by decide +kernel⟩
theorem sc_Counted_rest:FnScope ["self"] ["self"] (defScope (inClass (top 23) 1)):=⟨rfl,rfl,rfl,by decide +kernel,rfl,by decide +kernel,by decide +kernel⟩
theorem sc_Likeliest_rest:FnScope ["self"] ["self"] (defScope (inClass (top 24) 1)):=⟨rfl,rfl,rfl,by decide +kernel,rfl,by decide +kernel,by decide +kernel⟩
theorem sc_Chances_rest:FnScope ["self"] ["self"] (defScope (inClass (top 25) 1)):=⟨rfl,rfl,rfl,by decide +kernel,rfl,by decide +kernel,by decide +kernel⟩
theorem sc_Musts_rest:FnScope ["self"] ["self"] (defScope (inClass (top 26) 1)):=⟨rfl,rfl,rfl,by decide +kernel,rfl,by decide +kernel,by decide +kernel⟩
theorem sc_Rests_rest:FnScope ["self"] ["self"] (defScope (inClass (top 27) 2)):=⟨rfl,rfl,rfl,by decide +kernel,rfl,by decide +kernel,by decide +kernel⟩
structure At_rest (K:PySem.W.Frag) (a:Adr):Prop where
  fFewest:MthAt K a.cFewest "rest" "Fewest.rest" (inClass (top 21) 1)
  fWidest:MthAt K a.cWidest "rest" "Widest.rest" (inClass (top 22) 1)
  fCounted:MthAt K a.cCounted "rest" "Counted.rest" (inClass (top 23) 1)
  fLikeliest:MthAt K a.cLikeliest "rest" "Likeliest.rest" (inClass (top 24) 1)
  fChances:MthAt K a.cChances "rest" "Chances.rest" (inClass (top 25) 1)
  fMusts:MthAt K a.cMusts "rest" "Musts.rest" (inClass (top 26) 1)
  fRests:MthAt K a.cRests "rest" "Rests.rest" (inClass (top 27) 2)
theorem len_zero {kd:Kd} {vs:List V} {H:Hp} {Q:VK} {E:XK} (h:spZero a kd vs H Q E):vs.length=1:=by
  obtain ⟨_,_,rfl,_⟩:=h
  rfl
theorem len_one {kd:Kd} {vs:List V} {H:Hp} {Q:VK} {E:XK} (h:spOne a kd vs H Q E):vs.length=1:=by
  obtain ⟨_,_,rfl,_⟩:=h
  rfl
theorem v_none (T:Tx K mg a) (F:At_none K a):Mth P w K mg base 1 a.cl "none" ["self"] (fun i=>spZero a i.1):=by
  refine ⟨fun ⟨kd,hk⟩=>?_⟩
  cases kd with
  | fewest =>
    refine m_of hk T F.fFewest (fun _ _ _ _ _ _ us hl=>match us,hl with | [_],_=>rfl) fun f fd F=>F.okN sc_Fewest_none (fun _ _ _ _=>len_zero) (fun cdv A outer s H vs Q E hr h=>?_)
    obtain ⟨p,ok,rfl,_,q⟩:=h
    exact ⟨_,(pss_one (ps_ret pe_non)),q _ _ (Same.refl H) True.intro⟩
  | widest =>
    refine m_of hk T F.fWidest (fun _ _ _ _ _ _ us hl=>match us,hl with | [_],_=>rfl) fun f fd F=>F.okN sc_Widest_none (fun _ _ _ _=>len_zero) (fun cdv A outer s H vs Q E hr h=>?_)
    obtain ⟨p,ok,rfl,_,q⟩:=h
    exact ⟨_,(pss_one (ps_ret pe_int)),q _ _ (Same.refl H) rfl⟩
  | counted =>
    refine m_of hk T F.fCounted (fun _ _ _ _ _ _ us hl=>match us,hl with | [_],_=>rfl) fun f fd F=>F.okN sc_Counted_none (fun _ _ _ _=>len_zero) (fun cdv A outer s H vs Q E hr h=>?_)
    obtain ⟨p,ok,rfl,_,q⟩:=h
    exact ⟨_,(pss_one (ps_ret pe_int)),q _ _ (Same.refl H) rfl⟩
  | likeliest =>
    refine m_of hk T F.fLikeliest (fun _ _ _ _ _ _ us hl=>match us,hl with | [_],_=>rfl) fun f fd F=>F.okN sc_Likeliest_none (fun _ _ _ _=>len_zero) (fun cdv A outer s H vs Q E hr h=>?_)
    obtain ⟨p,ok,rfl,_,q⟩:=h
    exact ⟨_,(pss_one (ps_ret (pe_tup (pa_cons (hs:=st_Constant) pe_int (pa_cons (hs:=st_Constant) pe_int pa_nil))))),⟨(by show 2≤sizeLine; decide),fun p np=>q (.ref p) _ (same_one np) upd_same⟩⟩
  | chances =>
    refine m_of hk T F.fChances (fun _ _ _ _ _ _ us hl=>match us,hl with | [_],_=>rfl) fun f fd F=>F.okN sc_Chances_none (fun _ _ _ _=>len_zero) (fun cdv A outer s H vs Q E hr h=>?_)
    obtain ⟨p,ok,rfl,_,q⟩:=h
    exact ⟨_,(pss_one (ps_ret (pe_tup (pa_cons (hs:=st_Constant) pe_int (pa_cons (hs:=st_Constant) pe_int pa_nil))))),⟨(by show 2≤sizeLine; decide),fun p np=>q (.ref p) _ (same_one np) upd_same⟩⟩
  | musts =>
    refine m_of hk T F.fMusts (fun _ _ _ _ _ _ us hl=>match us,hl with | [_],_=>rfl) fun f fd F=>F.okN sc_Musts_none (fun _ _ _ _=>len_zero) (fun cdv A outer s H vs Q E hr h=>?_)
    obtain ⟨p,ok,rfl,_,q⟩:=h
    exact ⟨_,(pss_one (ps_ret pe_non)),q _ _ (Same.refl H) True.intro⟩
  | rests m =>
    refine m_of (kd:=.rests m) hk T F.fRests (fun _ _ _ _ _ _ us hl=>match us,hl with | [_],_=>rfl) fun f fd F=>F.okN sc_Rests_none (fun _ _ _ _=>len_zero) (fun cdv A outer s H vs Q E hr h=>?_)
    obtain ⟨p,ok,rfl,_,q⟩:=h
    exact ⟨_,(pss_one (ps_ret pe_int)),q _ _ (Same.refl H) rfl⟩
theorem v_rest (T:Tx K mg a) (F:At_rest K a):Mth P w K mg base 1 a.cl "rest" ["self"] (fun i=>spOne a i.1):=by
  refine ⟨fun ⟨kd,hk⟩=>?_⟩
  cases kd with
  | fewest =>
    refine m_of hk T F.fFewest (fun _ _ _ _ _ _ us hl=>match us,hl with | [_],_=>rfl) fun f fd F=>F.okN sc_Fewest_rest (fun _ _ _ _=>len_one) (fun cdv A outer s H vs Q E hr h=>?_)
    obtain ⟨p,ok,rfl,_,q⟩:=h
    exact ⟨_,(pss_one (ps_ret pe_int)),q _ _ (Same.refl H) rfl⟩
  | widest =>
    refine m_of hk T F.fWidest (fun _ _ _ _ _ _ us hl=>match us,hl with | [_],_=>rfl) fun f fd F=>F.okN sc_Widest_rest (fun _ _ _ _=>len_one) (fun cdv A outer s H vs Q E hr h=>?_)
    obtain ⟨p,ok,rfl,_,q⟩:=h
    exact ⟨_,(pss_one (ps_ret (pe_glob (v:=V.int 1000000000) rfl T.c_WIDEST ⟨_,rfl⟩))),q _ _ (Same.refl H) rfl⟩
  | counted =>
    refine m_of hk T F.fCounted (fun _ _ _ _ _ _ us hl=>match us,hl with | [_],_=>rfl) fun f fd F=>F.okN sc_Counted_rest (fun _ _ _ _=>len_one) (fun cdv A outer s H vs Q E hr h=>?_)
    obtain ⟨p,ok,rfl,_,q⟩:=h
    exact ⟨_,(pss_one (ps_ret pe_int)),q _ _ (Same.refl H) rfl⟩
  | likeliest =>
    refine m_of hk T F.fLikeliest (fun _ _ _ _ _ _ us hl=>match us,hl with | [_],_=>rfl) fun f fd F=>F.okN sc_Likeliest_rest (fun _ _ _ _=>len_one) (fun cdv A outer s H vs Q E hr h=>?_)
    obtain ⟨p,ok,rfl,_,q⟩:=h
    exact ⟨_,(pss_one (ps_ret (pe_tup (pa_cons (hs:=st_Constant) pe_int (pa_cons (hs:=st_Constant) pe_int pa_nil))))),⟨(by show 2≤sizeLine; decide),fun p np=>q (.ref p) _ (same_one np) upd_same⟩⟩
  | chances =>
    refine m_of hk T F.fChances (fun _ _ _ _ _ _ us hl=>match us,hl with | [_],_=>rfl) fun f fd F=>F.okN sc_Chances_rest (fun _ _ _ _=>len_one) (fun cdv A outer s H vs Q E hr h=>?_)
    obtain ⟨p,ok,rfl,_,q⟩:=h
    exact ⟨_,(pss_one (ps_ret (pe_tup (pa_cons (hs:=st_Constant) pe_int (pa_cons (hs:=st_Constant) pe_int pa_nil))))),⟨(by show 2≤sizeLine; decide),fun p np=>q (.ref p) _ (same_one np) upd_same⟩⟩
  | musts =>
    refine m_of hk T F.fMusts (fun _ _ _ _ _ _ us hl=>match us,hl with | [_],_=>rfl) fun f fd F=>F.okN sc_Musts_rest (fun _ _ _ _=>len_one) (fun cdv A outer s H vs Q E hr h=>?_)
    obtain ⟨p,ok,rfl,_,q⟩:=h
    exact ⟨_,(pss_one (ps_ret pe_int)),q _ _ (Same.refl H) rfl⟩
  | rests m =>
    refine m_of (kd:=.rests m) hk T F.fRests (fun _ _ _ _ _ _ us hl=>match us,hl with | [_],_=>rfl) fun f fd F=>F.okN sc_Rests_rest (fun _ _ _ _=>len_one) (fun cdv A outer s H vs Q E hr h=>?_)
    obtain ⟨p,ok,rfl,_,q⟩:=h
    exact ⟨_,(pss_one (ps_ret pe_int)),q _ _ (Same.refl H) rfl⟩
def spAdd (a:Adr) (kd:Kd):Sp:=fun vs H Q _=>∃ (p:Addr) (v1 v2:V) (ok:KdOk kd) (x y:Car kd),vs=[.ref p,v1,v2]∧KindAt a H p kd∧IsW H v1 (enc kd x)∧IsW H v2 (enc kd y)∧Sm Big (enc kd x)∧Sm Big (enc kd y) ∧
  ∀ v H',Same H H'→IsW H' v (enc kd ((ks kd ok).add x y))→Q v H'
def spMul (a:Adr) (kd:Kd):Sp:=fun vs H Q _=>∃ (p:Addr) (v1 v2:V) (ok:KdOk kd) (x y:Car kd),vs=[.ref p,v1,v2]∧KindAt a H p kd∧IsW H v1 (enc kd x)∧IsW H v2 (enc kd y)∧Sm Big (enc kd x)∧Sm Big (enc kd y) ∧
  ∀ v H',Same H H'→IsW H' v (enc kd ((ks kd ok).mul x y))→Q v H'
theorem len_add {kd:Kd} {vs:List V} {H:Hp} {Q:VK} {E:XK} (h:spAdd a kd vs H Q E):vs.length=3:=by
  obtain ⟨_,_,_,_,_,_,rfl,_⟩:=h
  rfl
theorem len_mul {kd:Kd} {vs:List V} {H:Hp} {Q:VK} {E:XK} (h:spMul a kd vs H Q E):vs.length=3:=by
  obtain ⟨_,_,_,_,_,_,rfl,_⟩:=h
  rfl
theorem sc_Fewest_together:FnScope ["self","one","other"] ["self","one","other"] (defScope (inClass (top 21) 3)):=⟨rfl,rfl,rfl,by decide +kernel,rfl,by decide +kernel,by decide +kernel⟩
theorem sc_Widest_together:FnScope ["self","one","other"] ["self","one","other"] (defScope (inClass (top 22) 3)):=⟨rfl,rfl,rfl,by decide +kernel,rfl,by decide +kernel,by decide +kernel⟩
theorem sc_Counted_together:FnScope ["self","one","other"] ["self","one","other"] (defScope (inClass (top 23) 3)):=⟨rfl,rfl,rfl,by decide +kernel,rfl,by decide +kernel,by decide +kernel⟩
theorem sc_Likeliest_together:FnScope ["self","one","other"] ["self","one","other"] (defScope (inClass (top 24) 3)):=⟨rfl,rfl,rfl,by decide +kernel,rfl,by decide +kernel,by decide +kernel⟩
theorem sc_Chances_together:FnScope ["self","one","other"] ["self","one","other"] (defScope (inClass (top 25) 3)):=⟨rfl,rfl,rfl,by decide +kernel,rfl,by decide +kernel,by decide +kernel⟩
theorem sc_Musts_together:FnScope ["self","one","other"] ["self","one","other"] (defScope (inClass (top 26) 3)):=⟨rfl,rfl,rfl,by decide +kernel,rfl,by decide +kernel,by decide +kernel⟩
theorem sc_Rests_together:FnScope ["self","one","other"] ["self","one","other"] (defScope (inClass (top 27) 4)):=⟨rfl,rfl,rfl,by decide +kernel,rfl,by decide +kernel,by decide +kernel⟩
structure At_together (K:PySem.W.Frag) (a:Adr):Prop where
  fFewest:MthAt K a.cFewest "together" "Fewest.together" (inClass (top 21) 3)
  fWidest:MthAt K a.cWidest "together" "Widest.together" (inClass (top 22) 3)
  fCounted:MthAt K a.cCounted "together" "Counted.together" (inClass (top 23) 3)
  fLikeliest:MthAt K a.cLikeliest "together" "Likeliest.together" (inClass (top 24) 3)
  fChances:MthAt K a.cChances "together" "Chances.together" (inClass (top 25) 3)
  fMusts:MthAt K a.cMusts "together" "Musts.together" (inClass (top 26) 3)
  fRests:MthAt K a.cRests "together" "Rests.together" (inClass (top 27) 4)
theorem sc_Fewest_behind:FnScope ["self","one","other"] ["self","one","other"] (defScope (inClass (top 21) 4)):=⟨rfl,rfl,rfl,by decide +kernel,rfl,by decide +kernel,by decide +kernel⟩
theorem sc_Widest_behind:FnScope ["self","one","other"] ["self","one","other"] (defScope (inClass (top 22) 4)):=⟨rfl,rfl,rfl,by decide +kernel,rfl,by decide +kernel,by decide +kernel⟩
theorem sc_Counted_behind:FnScope ["self","one","other"] ["self","one","other"] (defScope (inClass (top 23) 4)):=⟨rfl,rfl,rfl,by decide +kernel,rfl,by decide +kernel,by decide +kernel⟩
theorem sc_Likeliest_behind:FnScope ["self","one","other"] ["self","one","other"] (defScope (inClass (top 24) 4)):=⟨rfl,rfl,rfl,by decide +kernel,rfl,by decide +kernel,by decide +kernel⟩
theorem sc_Chances_behind:FnScope ["self","one","other"] ["self","one","other"] (defScope (inClass (top 25) 4)):=⟨rfl,rfl,rfl,by decide +kernel,rfl,by decide +kernel,by decide +kernel⟩
theorem sc_Musts_behind:FnScope ["self","one","other"] ["self","one","other"] (defScope (inClass (top 26) 4)):=⟨rfl,rfl,rfl,by decide +kernel,rfl,by decide +kernel,by decide +kernel⟩
theorem sc_Rests_behind:FnScope ["self","one","other","sums","by"] ["self","one","other"] (defScope (inClass (top 27) 5)):=⟨rfl,rfl,rfl,by decide +kernel,rfl,by decide +kernel,by decide +kernel⟩
structure At_behind (K:PySem.W.Frag) (a:Adr):Prop where
  fFewest:MthAt K a.cFewest "behind" "Fewest.behind" (inClass (top 21) 4)
  fWidest:MthAt K a.cWidest "behind" "Widest.behind" (inClass (top 22) 4)
  fCounted:MthAt K a.cCounted "behind" "Counted.behind" (inClass (top 23) 4)
  fLikeliest:MthAt K a.cLikeliest "behind" "Likeliest.behind" (inClass (top 24) 4)
  fChances:MthAt K a.cChances "behind" "Chances.behind" (inClass (top 25) 4)
  fMusts:MthAt K a.cMusts "behind" "Musts.behind" (inClass (top 26) 4)
  fRests:MthAt K a.cRests "behind" "Rests.behind" (inClass (top 27) 5)
theorem min_if (i j:Nat):(if (j:Int) < i then (j:Int) else i)=((min i j:Nat):Int):=by split <;> omega
theorem max_if (i j:Nat):(if (j:Int) > i then (j:Int) else i)=((max i j:Nat):Int):=by split <;> omega
theorem v_together (T:Tx K mg a) (D_greater:Dn P w K mg base 1 "greater" ["one","other"] (spTwo rmax)) (D_added:Dn P w K mg base 34 "added" ["one","other"] (spTwo fun p q=>p + q)) (F:At_together K a) :
    Mth P w K mg base 35 a.cl "together" ["self","one","other"] (fun i=>spAdd a i.1):=by
  refine ⟨fun ⟨kd,hk⟩=>?_⟩
  cases kd with
  | fewest =>
    refine m_of hk T F.fFewest (fun _ _ _ _ _ _ us hl=>match us,hl with | [_,_,_],_=>rfl) fun f fd F=>F.okN sc_Fewest_together (fun _ _ _ _=>len_add) (fun cdv A outer s H vs Q E hr h=>?_)
    obtain ⟨p,v1,v2,ok,x,y,rfl,_,h1,h2,s1,s2,q⟩:=h
    refine ⟨_,(pss_cons (ps_if (pt_cmp (pc_isN (pv 1))) (pss_one (ps_ret (pv 2))) pss_nil)
      (pss_cons (ps_if (pt_cmp (pc_isN (pv 2))) (pss_one (ps_ret (pv 1))) pss_nil)
      (pss_one (ps_ret (pe_callB (call_min2 rfl) rfl T.b_min bt_min (pa_cons (hs:=st_Name) (pv 1) (pa_cons (hs:=st_Name) (pv 2) pa_nil))))))),?_⟩
    rcases x with _ | i
    · obtain rfl:=isW_non h1
      exact ⟨_,rfl,_,rfl,iteT ⟨_,rfl,q _ _ (Same.refl H) (by cases y <;> exact h2)⟩⟩
    · obtain rfl:=isW_int h1
      refine ⟨_,rfl,_,rfl,iteF ?_⟩
      rcases y with _ | j
      · obtain rfl:=isW_non h2
        exact ⟨_,rfl,_,rfl,iteT ⟨_,rfl,q _ _ (Same.refl H) rfl⟩⟩
      · obtain rfl:=isW_int h2
        exact ⟨_,rfl,_,rfl,iteF ⟨_,rfl,_,rfl,_,_,rfl,q _ _ (Same.refl H) (min_if i j)⟩⟩
  | widest =>
    refine m_of hk T F.fWidest (fun _ _ _ _ _ _ us hl=>match us,hl with | [_,_,_],_=>rfl) fun f fd F=>F.okN sc_Widest_together (fun _ _ _ _=>len_add) (fun cdv A outer s H vs Q E hr h=>?_)
    obtain ⟨p,v1,v2,ok,x,y,rfl,_,h1,h2,s1,s2,q⟩:=h
    refine ⟨_,(pss_one (ps_ret (pe_callB (call_max2 rfl) rfl T.b_max bt_max (pa_cons (hs:=st_Name) (pv 1) (pa_cons (hs:=st_Name) (pv 2) pa_nil))))),?_⟩
    obtain rfl:=isW_int h1
    obtain rfl:=isW_int h2
    exact ⟨_,rfl,_,rfl,_,_,rfl,q _ _ (Same.refl H) (max_if x.1 y.1)⟩
  | counted =>
    refine m_of hk T F.fCounted (fun _ _ _ _ _ _ us hl=>match us,hl with | [_,_,_],_=>rfl) fun f fd F=>F.okN sc_Counted_together (fun _ _ _ _=>len_add) (fun cdv A outer s H vs Q E hr h=>?_)
    obtain ⟨p,v1,v2,ok,x,y,rfl,_,h1,h2,s1,s2,q⟩:=h
    refine ⟨_,(pss_cons (ps_if (PW.pt (pw_or (pt_cmpR op_eq (pv 1) (pe_un un_neg pe_int) (nomark _)) (pw_or1 (pt_cmpR op_eq (pv 2) (pe_un un_neg pe_int) (nomark _))))) (pss_one (ps_ret (pe_un un_neg pe_int))) pss_nil)
      (pss_one (ps_ret (pe_op op_add (pv 1) (pv 2))))),?_⟩
    rcases x with _ | i
    · obtain rfl:=isW_int h1
      exact ⟨_,rfl,_,rfl,rfl,_,rfl,iteT (iteT ⟨_,rfl,q _ _ (Same.refl H) (by cases y <;> rfl)⟩)⟩
    · obtain rfl:=isW_int h1
      refine ⟨_,rfl,_,rfl,rfl,_,rfl,iteEqI (fun z=>by omega) (fun _=>?_)⟩
      rcases y with _ | j
      · obtain rfl:=isW_int h2
        exact ⟨_,rfl,_,rfl,rfl,_,rfl,iteT ⟨_,rfl,q _ _ (Same.refl H) rfl⟩⟩
      · obtain rfl:=isW_int h2
        refine ⟨_,rfl,_,rfl,rfl,_,rfl,iteEqI (fun z=>by omega) (fun _=>?_)⟩
        exact ⟨_,rfl,_,rfl,_,_,rfl,rfl,q _ _ (Same.refl H) (by show (i:Int) + j=((i + j:Nat):Int); omega)⟩
  | likeliest =>
    refine m_of hk T F.fLikeliest (fun _ _ _ _ _ _ us hl=>match us,hl with | [_,_,_],_=>rfl) fun f fd F=>F.okN sc_Likeliest_together (fun _ _ _ _=>len_add) (fun cdv A outer s H vs Q E hr h=>?_)
    obtain ⟨p,v1,v2,ok,x,y,rfl,_,h1,h2,s1,s2,q⟩:=h
    exact ⟨_,(pss_one (ps_ret (pe_callD D_greater (hr.mono (by decide)) rfl passE0 (pa_cons (hs:=st_Name) (pv 1) (pa_cons (hs:=st_Name) (pv 2) pa_nil))))),⟨_,rfl,_,rfl,v1,v2,x.1,y.1,rfl,h1,h2,s1,s2,fun v H' s' hv=>q v H' s' hv⟩⟩
  | chances =>
    refine m_of hk T F.fChances (fun _ _ _ _ _ _ us hl=>match us,hl with | [_,_,_],_=>rfl) fun f fd F=>F.okN sc_Chances_together (fun _ _ _ _=>len_add) (fun cdv A outer s H vs Q E hr h=>?_)
    obtain ⟨p,v1,v2,ok,x,y,rfl,_,h1,h2,s1,s2,q⟩:=h
    exact ⟨_,(pss_one (ps_ret (pe_callD D_added (hr.mono (by decide)) rfl passE0 (pa_cons (hs:=st_Name) (pv 1) (pa_cons (hs:=st_Name) (pv 2) pa_nil))))),⟨_,rfl,_,rfl,v1,v2,x.1,y.1,rfl,h1,h2,s1,s2,fun v H' s' hv=>q v H' s' hv⟩⟩
  | musts =>
    refine m_of hk T F.fMusts (fun _ _ _ _ _ _ us hl=>match us,hl with | [_,_,_],_=>rfl) fun f fd F=>F.okN sc_Musts_together (fun _ _ _ _=>len_add) (fun cdv A outer s H vs Q E hr h=>?_)
    obtain ⟨p,v1,v2,ok,x,y,rfl,_,h1,h2,s1,s2,q⟩:=h
    refine ⟨_,(pss_cons (ps_if (pt_cmp (pc_isN (pv 1))) (pss_one (ps_ret (pv 2))) pss_nil)
      (pss_cons (ps_if (pt_cmp (pc_isN (pv 2))) (pss_one (ps_ret (pv 1))) pss_nil)
      (pss_one (ps_ret (pe_op op_and (pv 1) (pv 2)))))),?_⟩
    rcases x with _ | i
    · obtain rfl:=isW_non h1
      exact ⟨_,rfl,_,rfl,iteT ⟨_,rfl,q _ _ (Same.refl H) (by cases y <;> exact h2)⟩⟩
    · obtain rfl:=isW_int h1
      refine ⟨_,rfl,_,rfl,iteF ?_⟩
      rcases y with _ | j
      · obtain rfl:=isW_non h2
        exact ⟨_,rfl,_,rfl,iteT ⟨_,rfl,q _ _ (Same.refl H) rfl⟩⟩
      · obtain rfl:=isW_int h2
        exact ⟨_,rfl,_,rfl,iteF ⟨_,rfl,_,rfl,_,_,rfl,rfl,q _ _ (Same.refl H) (bitAnd_nat i j)⟩⟩
  | rests m =>
    refine m_of (kd:=.rests m) hk T F.fRests (fun _ _ _ _ _ _ us hl=>match us,hl with | [_,_,_],_=>rfl) fun f fd F=>F.okN sc_Rests_together (fun _ _ _ _=>len_add) (fun cdv A outer s H vs Q E hr h=>?_)
    obtain ⟨p,v1,v2,ok,x,y,rfl,_,h1,h2,s1,s2,q⟩:=h
    obtain rfl:=isW_int h1
    obtain rfl:=isW_int h2
    exact ⟨_,(pss_one (ps_ret (pe_op op_or (pv 1) (pv 2)))),⟨_,rfl,_,rfl,_,_,rfl,rfl,q _ _ (Same.refl H) (bitOr_nat x.1 y.1)⟩⟩
theorem pow12 {m n:Nat} (h:m≤12) (hn:n < 2 ^ m):n < 2 ^ 12:=Nat.lt_of_lt_of_le hn (Nat.pow_le_pow_right (by decide) h)
theorem v_behind (T:Tx K mg a) (D_multiplied:Dn P w K mg base 34 "multiplied" ["one","other"] (spTwo fun p q=>p * q)) (D_raised:Dn P w K mg base 1 "raised" ["rests","by","m"] spRaised) (F:At_behind K a) :
    Mth P w K mg base 35 a.cl "behind" ["self","one","other"] (fun i=>spMul a i.1):=by
  refine ⟨fun ⟨kd,hk⟩=>?_⟩
  cases kd with
  | fewest =>
    refine m_of hk T F.fFewest (fun _ _ _ _ _ _ us hl=>match us,hl with | [_,_,_],_=>rfl) fun f fd F=>F.okN sc_Fewest_behind (fun _ _ _ _=>len_mul) (fun cdv A outer s H vs Q E hr h=>?_)
    obtain ⟨p,v1,v2,ok,x,y,rfl,_,h1,h2,s1,s2,q⟩:=h
    refine ⟨_,(pss_cons (ps_if (PW.pt (pw_or (pt_cmp (pc_isN (pv 1))) (pw_or1 (pt_cmp (pc_isN (pv 2)))))) (pss_one (ps_ret pe_non)) pss_nil)
      (pss_one (ps_ret (pe_op op_add (pv 1) (pv 2))))),?_⟩
    rcases x with _ | i
    · obtain rfl:=isW_non h1
      exact ⟨_,rfl,_,rfl,iteT (iteT (q _ _ (Same.refl H) True.intro))⟩
    · obtain rfl:=isW_int h1
      refine ⟨_,rfl,_,rfl,iteF ?_⟩
      rcases y with _ | j
      · obtain rfl:=isW_non h2
        exact ⟨_,rfl,_,rfl,iteT (q _ _ (Same.refl H) True.intro)⟩
      · obtain rfl:=isW_int h2
        exact ⟨_,rfl,_,rfl,iteF ⟨_,rfl,_,rfl,_,_,rfl,rfl,q _ _ (Same.refl H) (by show (i:Int) + j=((i + j:Nat):Int); omega)⟩⟩
  | widest =>
    refine m_of hk T F.fWidest (fun _ _ _ _ _ _ us hl=>match us,hl with | [_,_,_],_=>rfl) fun f fd F=>F.okN sc_Widest_behind (fun _ _ _ _=>len_mul) (fun cdv A outer s H vs Q E hr h=>?_)
    obtain ⟨p,v1,v2,ok,x,y,rfl,_,h1,h2,s1,s2,q⟩:=h
    refine ⟨_,(pss_one (ps_ret (pe_callB (call_min2 rfl) rfl T.b_min bt_min (pa_cons (hs:=st_Name) (pv 1) (pa_cons (hs:=st_Name) (pv 2) pa_nil))))),?_⟩
    obtain rfl:=isW_int h1
    obtain rfl:=isW_int h2
    exact ⟨_,rfl,_,rfl,_,_,rfl,q _ _ (Same.refl H) (min_if x.1 y.1)⟩
  | counted =>
    refine m_of hk T F.fCounted (fun _ _ _ _ _ _ us hl=>match us,hl with | [_,_,_],_=>rfl) fun f fd F=>F.okN sc_Counted_behind (fun _ _ _ _=>len_mul) (fun cdv A outer s H vs Q E hr h=>?_)
    obtain ⟨p,v1,v2,ok,x,y,rfl,_,h1,h2,s1,s2,q⟩:=h
    refine ⟨_,(pss_cons (ps_if (PW.pt (pw_or (pt_cmpR op_eq (pv 1) pe_int (nomark _)) (pw_or1 (pt_cmpR op_eq (pv 2) pe_int (nomark _))))) (pss_one (ps_ret pe_int)) pss_nil)
      (pss_cons (ps_if (PW.pt (pw_or (pt_cmpR op_eq (pv 1) (pe_un un_neg pe_int) (nomark _)) (pw_or1 (pt_cmpR op_eq (pv 2) (pe_un un_neg pe_int) (nomark _))))) (pss_one (ps_ret (pe_un un_neg pe_int))) pss_nil)
      (pss_one (ps_ret (pe_op op_mulX (pv 1) (pv 2)))))),?_⟩
    obtain ⟨i,rfl,e1,hx⟩:=counted_is h1
    obtain ⟨j,rfl,e2,hy⟩:=counted_is h2
    rw [e1] at s1
    rw [e2] at s2
    have fin:∀ k:Int,enc .counted (oMul x y)=.int k→Q (.int k) H:=fun k e=>q _ _ (Same.refl H) (by show IsW H _ (enc .counted (oMul x y)); rw [e]; exact rfl)
    refine ⟨_,rfl,rfl,_,rfl,iteEqI (fun z=>?_) (fun zi=>?_)⟩
    · exact iteT (fin 0 (counted_zero hx z))
    refine ⟨_,rfl,rfl,_,rfl,iteEqI (fun z=>?_) (fun zj=>?_)⟩
    · exact fin 0 ((congrArg (enc .counted) (oMul_comm x y)).trans (counted_zero hy z))
    refine ⟨_,rfl,_,rfl,rfl,_,rfl,iteEqI (fun z=>?_) (fun z1=>?_)⟩
    · exact iteT ⟨_,rfl,fin (-1) (counted_endless hx hy zi zj (.inl z))⟩
    refine ⟨_,rfl,_,rfl,rfl,_,rfl,iteEqI (fun z=>?_) (fun z2=>?_)⟩
    · exact ⟨_,rfl,fin (-1) (counted_endless hx hy zi zj (.inr z))⟩
    · exact ⟨_,rfl,_,rfl,_,_,rfl,rfl,big_mul s1 s2,fin _ (counted_prod hx hy z1 z2)⟩
  | likeliest =>
    refine m_of hk T F.fLikeliest (fun _ _ _ _ _ _ us hl=>match us,hl with | [_,_,_],_=>rfl) fun f fd F=>F.okN sc_Likeliest_behind (fun _ _ _ _=>len_mul) (fun cdv A outer s H vs Q E hr h=>?_)
    obtain ⟨p,v1,v2,ok,x,y,rfl,_,h1,h2,s1,s2,q⟩:=h
    exact ⟨_,(pss_one (ps_ret (pe_callD D_multiplied (hr.mono (by decide)) rfl passE0 (pa_cons (hs:=st_Name) (pv 1) (pa_cons (hs:=st_Name) (pv 2) pa_nil))))),⟨_,rfl,_,rfl,v1,v2,x.1,y.1,rfl,h1,h2,s1,s2,fun v H' s' hv=>q v H' s' hv⟩⟩
  | chances =>
    refine m_of hk T F.fChances (fun _ _ _ _ _ _ us hl=>match us,hl with | [_,_,_],_=>rfl) fun f fd F=>F.okN sc_Chances_behind (fun _ _ _ _=>len_mul) (fun cdv A outer s H vs Q E hr h=>?_)
    obtain ⟨p,v1,v2,ok,x,y,rfl,_,h1,h2,s1,s2,q⟩:=h
    exact ⟨_,(pss_one (ps_ret (pe_callD D_multiplied (hr.mono (by decide)) rfl passE0 (pa_cons (hs:=st_Name) (pv 1) (pa_cons (hs:=st_Name) (pv 2) pa_nil))))),⟨_,rfl,_,rfl,v1,v2,x.1,y.1,rfl,h1,h2,s1,s2,fun v H' s' hv=>q v H' s' hv⟩⟩
  | musts =>
    refine m_of hk T F.fMusts (fun _ _ _ _ _ _ us hl=>match us,hl with | [_,_,_],_=>rfl) fun f fd F=>F.okN sc_Musts_behind (fun _ _ _ _=>len_mul) (fun cdv A outer s H vs Q E hr h=>?_)
    obtain ⟨p,v1,v2,ok,x,y,rfl,_,h1,h2,s1,s2,q⟩:=h
    refine ⟨_,(pss_cons (ps_if (PW.pt (pw_or (pt_cmp (pc_isN (pv 1))) (pw_or1 (pt_cmp (pc_isN (pv 2)))))) (pss_one (ps_ret pe_non)) pss_nil)
      (pss_one (ps_ret (pe_op op_or (pv 1) (pv 2))))),?_⟩
    rcases x with _ | i
    · obtain rfl:=isW_non h1
      exact ⟨_,rfl,_,rfl,iteT (iteT (q _ _ (Same.refl H) True.intro))⟩
    · obtain rfl:=isW_int h1
      refine ⟨_,rfl,_,rfl,iteF ?_⟩
      rcases y with _ | j
      · obtain rfl:=isW_non h2
        exact ⟨_,rfl,_,rfl,iteT (q _ _ (Same.refl H) True.intro)⟩
      · obtain rfl:=isW_int h2
        exact ⟨_,rfl,_,rfl,iteF ⟨_,rfl,_,rfl,_,_,rfl,rfl,q _ _ (Same.refl H) (bitOr_nat i j)⟩⟩
  | rests m =>
    refine m_of (kd:=.rests m) hk T F.fRests (fun _ _ _ _ _ _ us hl=>match us,hl with | [_,_,_],_=>rfl) fun f fd F=>F.okN sc_Rests_behind (fun _ _ _ _=>len_mul) (fun cdv A outer s H vs Q E hr h=>?_)
    obtain ⟨p,v1,v2,ok,x,y,rfl,⟨dx,hp⟩,h1,h2,s1,s2,q⟩:=h
    obtain rfl:=isW_int h1
    obtain rfl:=isW_int h2
    have o1:1≤m:=ok.1
    have o2:m≤12:=ok.2
    refine ⟨_,(pss_cons (ps_set (i:=3) sc_Rests_behind.nd rfl (Or.inl rfl) pe_int)
      (pss_cons (ps_for PassesOwn.never rfl (pi_range1 rfl T.b_range (pa_cons (hs:=st_Attribute) (pe_fld (pv 0) rfl) pa_nil)) (pg_name (i:=4) sc_Rests_behind.nd rfl (Or.inl rfl)) (pss_one (ps_if (pt_truth (pe_op op_and (pe_op op_shr (pv 1) (pv 4)) pe_int) (fun _=>rfl)) (pss_one (ps_set (i:=3) sc_Rests_behind.nd rfl (Or.inl rfl) (pe_op op_or (pv 3) (pe_callD D_raised (hr.mono (by decide)) rfl passE0 (pa_cons (hs:=st_Name) (pv 2) (pa_cons (hs:=st_Name) (pv 4) (pa_cons (hs:=st_Attribute) (pe_fld (pv 0) rfl) pa_nil))))))) pss_nil)))
      (pss_one (ps_ret (pv 3))))),?_⟩
    refine ⟨_,rfl,p,_,dx,_,_,rfl,hp,T.cl (.rests m) hk,T.na_Rests_m,rfl,(m:Int),rfl,by omega,by omega,?_⟩
    refine for_range (n:=(m:Int).toNat) (fun i σ H'=>H'=H∧i≤m∧∃ o,σ=[some (.ref p),some (.int x.1),some (.int y.1),some (.int (behTo m x.1 y.1 i:Nat)),o]) ⟨rfl,by omega,none,rfl⟩ ?_ ?_
    · rintro i σ H' hi ⟨rfl,_,o,rfl⟩
      have hi':i < m:=by omega
      rw [Int.zero_add]
      refine ⟨_,rfl,_,rfl,_,_,rfl,rfl,by omega,_,_,rfl,rfl,_,rfl,?_⟩
      rw [shr_nat,bit_test]
      have e:=behTo_succ m x.1 y.1 i
      refine iteB (fun c=>?_) (fun c=>?_)
      · rw [if_pos c] at e
        refine ⟨_,rfl,_,rfl,_,rfl,_,rfl,p,_,dx,_,_,rfl,hp,T.cl (.rests m) hk,T.na_Rests_m,rfl,y.1,i,m,rfl,pow12 o2 y.2,by omega,o2,_,_,rfl,rfl,?_⟩
        refine ⟨rfl,by omega,some (V.int (i:Int)),?_⟩
        dsimp only
        rw [bitOr_nat,← e]
        rfl
      · rw [if_neg (by rw [c]; exact Bool.false_ne_true)] at e
        exact ⟨rfl,by omega,_,by rw [e]; rfl⟩
    · rintro σ H' ⟨rfl,_,o,rfl⟩
      exact ⟨_,rfl,q _ _ (Same.refl H') (by rw [Int.toNat_natCast]; rfl)⟩
end
end K13
namespace K13
open PySem L2 Ws
seal PE PT PW PA PC PS PSs PG PGs PI PO
section
variable {P : Program} {w : World} {K : PySem.W.Frag} {mg : Str → Option Value} {base : Heap} {a : Adr}
def spStar (a:Adr) (kd:Kd):Sp:=fun vs H Q E=>∃ (p:Addr) (v:V) (ok:KdOk kd) (x:Car kd),vs=[.ref p,v]∧KindAt a H p kd∧IsW H v (enc kd x)∧Sm Big (enc kd x) ∧
  (∀ s,(ks kd ok).star x=some s→∀ v' H',Same H H'→IsW H' v' (enc kd s)→Q v' H')∧((ks kd ok).star x=none→∀ H',Same H H'→E (.ref a.cNoSum) none H')
theorem len_star {kd:Kd} {vs:List V} {H:Hp} {Q:VK} {E:XK} (h:spStar a kd vs H Q E):vs.length=2:=by
  obtain ⟨_,_,_,_,rfl,_⟩:=h
  rfl
theorem sm_rests {m n:Nat} (h:m≤12) (hn:n < 2 ^ m):Sm Big (.int (n:Int)):=Nat.le_trans (bits_nat (pow12 h hn)) (by decide)
theorem sc_Kind_rounds:FnScope ["self","one"] ["self","one"] (defScope (inClass (top 20) 5)):=⟨rfl,rfl,rfl,by decide +kernel,rfl,by decide +kernel,by decide +kernel⟩
theorem sc_Counted_rounds:FnScope ["self","one"] ["self","one"] (defScope (inClass (top 23) 5)):=⟨rfl,rfl,rfl,by decide +kernel,rfl,by decide +kernel,by decide +kernel⟩
theorem sc_Chances_rounds:FnScope ["self","one","lacking"] ["self","one"] (defScope (inClass (top 25) 5)):=⟨rfl,rfl,rfl,by decide +kernel,rfl,by decide +kernel,by decide +kernel⟩
theorem sc_Rests_rounds:FnScope ["self","one","reached","longer"] ["self","one"] (defScope (inClass (top 27) 6)):=⟨rfl,rfl,rfl,by decide +kernel,rfl,by decide +kernel,by decide +kernel⟩
structure At_rounds (K:PySem.W.Frag) (a:Adr):Prop where
  fFewest:MthAt K a.cFewest "rounds" "Kind.rounds" (inClass (top 20) 5)
  fWidest:MthAt K a.cWidest "rounds" "Kind.rounds" (inClass (top 20) 5)
  fCounted:MthAt K a.cCounted "rounds" "Counted.rounds" (inClass (top 23) 5)
  fLikeliest:MthAt K a.cLikeliest "rounds" "Kind.rounds" (inClass (top 20) 5)
  fChances:MthAt K a.cChances "rounds" "Chances.rounds" (inClass (top 25) 5)
  fMusts:MthAt K a.cMusts "rounds" "Kind.rounds" (inClass (top 20) 5)
  fRests:MthAt K a.cRests "rounds" "Rests.rounds" (inClass (top 27) 6)
theorem v_rounds (T:Tx K mg a) (V_none:Mth P w K mg base 1 a.cl "none" ["self"] (fun i=>spZero a i.1)) (V_rest:Mth P w K mg base 1 a.cl "rest" ["self"] (fun i=>spOne a i.1))
    (V_together:Mth P w K mg base 35 a.cl "together" ["self","one","other"] (fun i=>spAdd a i.1)) (V_behind:Mth P w K mg base 35 a.cl "behind" ["self","one","other"] (fun i=>spMul a i.1))
    (D_lacking_to_one:Dn P w K mg base 34 "lacking_to_one" ["share"] spLack) (F:At_rounds K a):Mth P w K mg base 36 a.cl "rounds" ["self","one"] (fun i=>spStar a i.1):=by
  refine ⟨fun ⟨kd,hk⟩=>?_⟩
  cases kd with
  | fewest =>
    refine m_of hk T F.fFewest (fun _ _ _ _ _ _ us hl=>match us,hl with | [_,_],_=>rfl) fun f fd F=>F.okN sc_Kind_rounds (fun _ _ _ _=>len_star) (fun cdv A outer s H vs Q E hr h=>?_)
    obtain ⟨p,v,ok,x,rfl,⟨dx,hp⟩,h1,s1,q,_⟩:=h
    exact ⟨_,(pss_one (ps_ret (pe_methV0 (pv 0) V_rest (hr.mono (by decide)) passE0))),⟨_,rfl,⟨.fewest,hk⟩,p,dx,_,rfl,hp,kfs_no _ (by decide +kernel),p,ok,rfl,⟨dx,hp⟩,fun v H' s' hv=>q _ rfl v H' s' hv⟩⟩
  | widest =>
    refine m_of hk T F.fWidest (fun _ _ _ _ _ _ us hl=>match us,hl with | [_,_],_=>rfl) fun f fd F=>F.okN sc_Kind_rounds (fun _ _ _ _=>len_star) (fun cdv A outer s H vs Q E hr h=>?_)
    obtain ⟨p,v,ok,x,rfl,⟨dx,hp⟩,h1,s1,q,_⟩:=h
    exact ⟨_,(pss_one (ps_ret (pe_methV0 (pv 0) V_rest (hr.mono (by decide)) passE0))),⟨_,rfl,⟨.widest,hk⟩,p,dx,_,rfl,hp,kfs_no _ (by decide +kernel),p,ok,rfl,⟨dx,hp⟩,fun v H' s' hv=>q _ rfl v H' s' hv⟩⟩
  | counted =>
    refine m_of hk T F.fCounted (fun _ _ _ _ _ _ us hl=>match us,hl with | [_,_],_=>rfl) fun f fd F=>F.okN sc_Counted_rounds (fun _ _ _ _=>len_star) (fun cdv A outer s H vs Q E hr h=>?_)
    obtain ⟨p,v,ok,x,rfl,⟨dx,hp⟩,h1,s1,q,_⟩:=h
    refine ⟨_,(pss_cons (ps_if (pt_cmpR op_eq (pv 1) pe_int (nomark _)) (pss_one (ps_ret pe_int)) pss_nil)
      (pss_one (ps_ret (pe_un un_neg pe_int)))),?_⟩
    rcases x with _ | _ | n
    · obtain rfl:=isW_int h1
      exact ⟨_,rfl,rfl,_,rfl,iteEqI (fun z=>by omega) (fun _=>⟨_,rfl,q _ rfl _ _ (Same.refl H) rfl⟩)⟩
    · obtain rfl:=isW_int h1
      exact ⟨_,rfl,rfl,_,rfl,iteEqI (fun _=>q _ rfl _ _ (Same.refl H) rfl) (fun z=>absurd rfl z)⟩
    · obtain rfl:=isW_int h1
      exact ⟨_,rfl,rfl,_,rfl,iteEqI (fun z=>by omega) (fun _=>⟨_,rfl,q _ rfl _ _ (Same.refl H) rfl⟩)⟩
  | likeliest =>
    refine m_of hk T F.fLikeliest (fun _ _ _ _ _ _ us hl=>match us,hl with | [_,_],_=>rfl) fun f fd F=>F.okN sc_Kind_rounds (fun _ _ _ _=>len_star) (fun cdv A outer s H vs Q E hr h=>?_)
    obtain ⟨p,v,ok,x,rfl,⟨dx,hp⟩,h1,s1,q,_⟩:=h
    exact ⟨_,(pss_one (ps_ret (pe_methV0 (pv 0) V_rest (hr.mono (by decide)) passE0))),⟨_,rfl,⟨.likeliest,hk⟩,p,dx,_,rfl,hp,kfs_no _ (by decide +kernel),p,ok,rfl,⟨dx,hp⟩,fun v H' s' hv=>q _ rfl v H' s' hv⟩⟩
  | chances =>
    refine m_of hk T F.fChances (fun _ _ _ _ _ _ us hl=>match us,hl with | [_,_],_=>rfl) fun f fd F=>F.okX sc_Chances_rounds (fun _ _ _ _=>len_star) (fun cdv A outer s H vs Q E hr h=>?_)
    obtain ⟨p,v,ok,x,rfl,⟨dx,hp⟩,h1,s1,q,e⟩:=h
    refine ⟨_,(pss_cons (ps_set (i:=2) sc_Chances_rounds.nd rfl (Or.inl rfl) (pe_callD D_lacking_to_one (hr.mono (by decide)) rfl pass_cx (pa_cons (hs:=st_Name) (pv 1) pa_nil)))
      (pss_cons (ps_if (pt_cmpR op_le (pe_ix ix_tup (pv 2) pe_int (fun _ _=>rfl)) pe_int (nomark _)) (pss_one (ps_raise T.x_NoSum rfl rfl rais_cx (pa_cons (hs:=st_Constant) pe_str pa_nil))) pss_nil)
      (pss_one (ps_ret (pe_tup (pa_cons (hs:=st_Subscript) (pe_ix ix_tup (pv 2) pe_int (fun _ _=>rfl)) (pa_cons (hs:=st_Subscript) (pe_ix ix_tup (pv 2) pe_int (fun _ _=>rfl)) pa_nil))))))),?_⟩
    refine ⟨_,rfl,v,x.1,rfl,h1,fun v2 H' s' hv=>?_⟩
    obtain ⟨r,rfl,er⟩:=isW_pair hv
    refine ⟨_,rfl,r,_,_,_,rfl,rfl,SqT.of er,rfl,_,_,rfl,rfl,_,rfl,iteD (fun c=>?_) (fun c=>?_)⟩
    · have lt:¬ x.1 < 1:=fun z=>by
        have:0 < (1 - x.1).num:=num_pos.mpr (by grind)
        omega
      exact ⟨by show 1≤sizeLine; decide,e (chances_ge x lt) H' s'⟩
    · have pos:0 < (1 - x.1).num:=by omega
      have lt:x.1 < 1:=by have:=num_pos.mp pos; grind
      refine ⟨_,rfl,r,_,_,_,rfl,rfl,SqT.of er,rfl,_,rfl,r,_,_,_,rfl,rfl,SqT.of er,rfl,(by show 2≤sizeLine; decide),fun p2 np=>?_⟩
      refine q ⟨(1 - x.1)⁻¹,rinv_nonneg lt⟩ (chances_lt x lt) _ _ (s'.trans (same_one np)) ?_
      show IsW _ _ (ofR (1 - x.1)⁻¹)
      rw [inv_turn pos]
      exact upd_same
  | musts =>
    refine m_of hk T F.fMusts (fun _ _ _ _ _ _ us hl=>match us,hl with | [_,_],_=>rfl) fun f fd F=>F.okN sc_Kind_rounds (fun _ _ _ _=>len_star) (fun cdv A outer s H vs Q E hr h=>?_)
    obtain ⟨p,v,ok,x,rfl,⟨dx,hp⟩,h1,s1,q,_⟩:=h
    exact ⟨_,(pss_one (ps_ret (pe_methV0 (pv 0) V_rest (hr.mono (by decide)) passE0))),⟨_,rfl,⟨.musts,hk⟩,p,dx,_,rfl,hp,kfs_no _ (by decide +kernel),p,ok,rfl,⟨dx,hp⟩,fun v H' s' hv=>q _ rfl v H' s' hv⟩⟩
  | rests m =>
    refine m_of (kd:=.rests m) hk T F.fRests (fun _ _ _ _ _ _ us hl=>match us,hl with | [_,_],_=>rfl) fun f fd F=>F.okN sc_Rests_rounds (fun _ _ _ _=>len_star) (fun cdv A outer s H vs Q E hr h=>?_)
    obtain ⟨p,v,ok,x,rfl,⟨dx,hp⟩,h1,s1,q,_⟩:=h
    obtain rfl:=isW_int h1
    have o1:1≤m:=ok.1
    have o2:m≤12:=ok.2
    refine ⟨_,(pss_cons (ps_set (i:=2) sc_Rests_rounds.nd rfl (Or.inl rfl) (pe_methV0 (pv 0) V_none (hr.mono (by decide)) passE0))
      (pss_cons (ps_set (i:=3) sc_Rests_rounds.nd rfl (Or.inl rfl) (pe_methV0 (pv 0) V_rest (hr.mono (by decide)) passE0))
      (pss_cons (ps_while PassesOwn.never (pt_cmpR op_ne (pv 3) (pv 2) (nomark _)) (pss_cons (ps_set (i:=2) sc_Rests_rounds.nd rfl (Or.inl rfl) (pv 3))
      (pss_one (ps_set (i:=3) sc_Rests_rounds.nd rfl (Or.inl rfl) (pe_methV (pv 0) V_together (hr.mono (by decide)) passE0 (pa_cons (hs:=st_Name) (pv 2) (pa_cons (hs:=st_Call) (pe_methV (pv 0) V_behind (hr.mono (by decide)) passE0 (pa_cons (hs:=st_Name) (pv 2) (pa_cons (hs:=st_Name) (pv 1) pa_nil))) pa_nil)))))))
      (pss_one (ps_ret (pv 2)))))),?_⟩
    refine ⟨_,rfl,⟨.rests m,hk⟩,p,dx,_,rfl,hp,kfs_no (.rests m) (by decide +kernel),p,ok,rfl,⟨dx,hp⟩,fun v0 H0 s0 hv0=>?_⟩
    obtain rfl:=isW_int hv0
    refine ⟨_,rfl,⟨.rests m,hk⟩,p,dx,_,rfl,s0 _ _ hp,kfs_no (.rests m) (by decide +kernel),p,ok,rfl,⟨dx,s0 _ _ hp⟩,fun v1 H1 s1 hv1=>?_⟩
    obtain rfl:=isW_int hv1
    refine ⟨fun n σ H'=>Same H H'∧∃ k r:Nat,k≤m + 1∧n=m + 1 - k∧σ=[some (.ref p),some (.int x.1),some (.int r),some (.int (rndTo m x.1 k:Nat))]∧((k=0∧r=0)∨∃ j,k=j + 1∧r=rndTo m x.1 j),⟨_,s0.trans s1,0,0,by omega,rfl,rfl,.inl ⟨rfl,rfl⟩⟩,?_⟩
    rintro n σ H' ⟨sH,k,r,hkm,rfl,rfl,hr'⟩
    refine ⟨_,rfl,_,rfl,rfl,_,rfl,iteNeI (fun c=>?_) (fun c=>?_)⟩
    · have hk1:k≤m:=by
        rcases hr' with ⟨rfl,_⟩ | ⟨j,rfl,rfl⟩
        · omega
        · have:¬ m≤j:=fun z=>c (by rw [rndTo_fix o1 x.2 (j + 1) (by omega),rndTo_fix o1 x.2 j z])
          omega
      have lk:=rndTo_lt o1 x.2 k
      refine ⟨fun σ' H'=>_,fun _ _ z=>z,?_⟩
      refine ⟨_,rfl,?_⟩
      refine ⟨_,rfl,⟨.rests m,hk⟩,p,dx,_,rfl,sH _ _ hp,kfs_no (.rests m) (by decide +kernel),_,rfl,?_⟩
      refine ⟨_,rfl,⟨.rests m,hk⟩,p,dx,_,rfl,sH _ _ hp,kfs_no (.rests m) (by decide +kernel),_,rfl,_,rfl,p,_,_,ok,⟨rndTo m x.1 k,lk⟩,x,rfl,⟨dx,sH _ _ hp⟩,rfl,rfl,sm_rests o2 lk,sm_rests o2 x.2,fun v2 H2 s2 hv2=>?_⟩
      obtain rfl:=isW_int hv2
      refine ⟨p,_,_,ok,⟨rndTo m x.1 k,lk⟩,⟨behN m (rndTo m x.1 k) x.1,behN_lt x.2⟩,rfl,⟨dx,s2 _ _ (sH _ _ hp)⟩,rfl,rfl,sm_rests o2 lk,sm_rests o2 (behN_lt x.2),fun v3 H3 s3 hv3=>?_⟩
      obtain rfl:=isW_int hv3
      exact ⟨m + 1 - (k + 1),by omega,(sH.trans s2).trans s3,k + 1,_,by omega,rfl,rfl,.inr ⟨k,rfl,rfl⟩⟩
    · have c':rndTo m x.1 k=r:=by omega
      rcases hr' with ⟨rfl,rfl⟩ | ⟨j,rfl,rfl⟩
      · exact absurd c' (by show ¬ 1=0; decide)
      · refine ⟨_,rfl,q ⟨rndTo m x.1 m,rndTo_lt o1 x.2 m⟩ rfl _ _ sH ?_⟩
        rw [rndTo_done o1 x.2 c']
        rfl
end
end K13
namespace K13
open PySem L2 Ws
seal PE PT PW PA PC PS PSs PG PGs PI PO
section
variable {P : Program} {w : World} {K : PySem.W.Frag} {mg : Str → Option Value} {base : Heap} {a : Adr}
def spIsFrom:Sp:=fun vs H Q _=>∃ v w l,vs=[v,.int l]∧IsW H v w∧Q (.bl (isFrom w l)) H
theorem sc_is_from:FnScope ["some","least"] ["some","least"] (defScope (top 18)):=⟨rfl,rfl,rfl,by decide +kernel,rfl,by decide +kernel,by decide +kernel⟩
theorem d_is_from (T:Tx K mg a) (F:DefAt K mg "is_from" (top 18)):Dn P w K mg base 1 "is_from" ["some","least"] spIsFrom:=by
  obtain ⟨f,fd,hm,F⟩:=F.ex
  refine ⟨f,fd,hm,F.kp,F.binds fun _ _ _ _ _ _ us hl=>match us,hl with | [_,_],_=>rfl,?_⟩
  refine F.okN sc_is_from (fun vs H Q E h=>?_) (fun cdv A outer s H vs Q E hr h=>?_)
  · obtain ⟨_,_,_,rfl,_⟩:=h
    rfl
  · obtain ⟨v,w',l,rfl,hw,q⟩:=h
    refine ⟨_,(pss_one (ps_ret (pe_and (pe_callB call_isinst rfl T.b_isinstance bt_isinstance (pa_cons (hs:=st_Name) (pv 0) (pa_cons (hs:=st_Name) (pe_bltn (v:=V.ty "int") rfl T.b_int bt_int rfl) pa_nil))) (pe_one (pe_cmpR op_ge (pv 0) (pv 1) (nomark _)))))),?_⟩
    rcases isW_cases hw with ⟨rfl,rfl⟩ | ⟨i,rfl,rfl⟩ | ⟨p,x,y,rfl,rfl,hp⟩
    · exact ⟨_,rfl,_,_,_,_,_,rfl,rfl,.of .non,kit_nI,_,rfl,iteF q⟩
    · exact ⟨_,rfl,_,_,_,_,_,rfl,rfl,.of (.int _),kit_iI,_,rfl,iteT ⟨_,rfl,_,rfl,_,_,rfl,rfl,q⟩⟩
    · exact ⟨_,rfl,_,_,_,_,_,rfl,rfl,.of (.tup hp),kit_tI,_,rfl,iteF q⟩
def spIsShare:Sp:=fun vs H Q _=>∃ v w,vs=[v]∧IsW H v w∧Q (.bl (isShare w)) H
theorem sc_is_share:FnScope ["some"] ["some"] (defScope (top 9)):=⟨rfl,rfl,rfl,by decide +kernel,rfl,by decide +kernel,by decide +kernel⟩
theorem d_is_share (T:Tx K mg a) (D_divisor:Dn P w K mg base 1 "divisor" ["first","second"] spDivisor) (F:DefAt K mg "is_share" (top 9)):Dn P w K mg base 2 "is_share" ["some"] spIsShare:=by
  obtain ⟨f,fd,hm,F⟩:=F.ex
  refine ⟨f,fd,hm,F.kp,F.binds fun _ _ _ _ _ _ us hl=>match us,hl with | [_],_=>rfl,?_⟩
  refine F.okN sc_is_share (fun vs H Q E h=>?_) (fun cdv A outer s H vs Q E hr h=>?_)
  · obtain ⟨_,_,rfl,_⟩:=h
    rfl
  · obtain ⟨v,w',rfl,hw,q⟩:=h
    refine ⟨_,(pss_one (ps_ret (pe_and (pe_callB call_isinst rfl T.b_isinstance bt_isinstance (pa_cons (hs:=st_Name) (pv 0) (pa_cons (hs:=st_Name) (pe_bltn (v:=V.ty "tuple") rfl T.b_tuple bt_tuple rfl) pa_nil))) (pe_and (pe_cmpR op_gt (pe_ix ix_tup (pv 0) pe_int (fun _ _=>rfl)) pe_int (nomark _)) (pe_one (pe_cmpR op_eq (pe_callD D_divisor (hr.mono (by decide)) rfl passE0 (pa_cons (hs:=st_Subscript) (pe_ix ix_tup (pv 0) pe_int (fun _ _=>rfl)) (pa_cons (hs:=st_Subscript) (pe_ix ix_tup (pv 0) pe_int (fun _ _=>rfl)) pa_nil))) pe_int (nomark _))))))),?_⟩
    rcases isW_cases hw with ⟨rfl,rfl⟩ | ⟨i,rfl,rfl⟩ | ⟨p,x,y,rfl,rfl,hp⟩
    · exact ⟨_,rfl,_,_,_,_,_,rfl,rfl,.of .non,kit_nT,_,rfl,iteF q⟩
    · exact ⟨_,rfl,_,_,_,_,_,rfl,rfl,.of (.int _),kit_iT,_,rfl,iteF q⟩
    · refine ⟨_,rfl,_,_,_,_,_,rfl,rfl,.of (.tup hp),kit_tT,_,rfl,iteT ?_⟩
      refine ⟨_,rfl,p,_,_,_,rfl,rfl,SqT.of hp,rfl,_,_,rfl,rfl,_,rfl,?_⟩
      refine ite2 (fun c=>?_) (fun c=>?_)
      · have c:0 < y:=of_decide_eq_true c
        refine ⟨_,rfl,p,_,_,_,rfl,rfl,SqT.of hp,rfl,_,rfl,p,_,_,_,rfl,rfl,SqT.of hp,rfl,x,y,rfl,c,rfl,?_⟩
        have:decide (V.int (Int.gcd x y:Int)=V.int 1)=isShare (.pair x y):=by
          by_cases g:Int.gcd x y=1
          · simp [isShare,c,g]
          · have:¬ ((Int.gcd x y:Int)=1):=by omega
            simp [isShare,c,g,this]
        rw [this]
        exact q
      · have c:¬ 0 < y:=fun z=>c (decide_eq_true z)
        have:isShare (.pair x y)=false:=by simp [isShare,c]
        rw [this] at q
        exact q
def spIsWorth (a:Adr) (kd:Kd):Sp:=fun vs H Q _=>∃ p v w,vs=[.ref p,v]∧KindAt a H p kd∧KdOk kd∧IsW H v w∧Q (.bl (isWorth kd w)) H
theorem sp_len {kd:Kd} {vs:List V} {H:Hp} {Q:VK} {E:XK} (h:spIsWorth a kd vs H Q E):vs.length=2:=by
  obtain ⟨_,_,_,rfl,_⟩:=h
  rfl
theorem isFrom_true {w:Wd} {l:Int} (h:isFrom w l=true):∃ i,w=.int i∧l≤i:=by
  cases w <;> simp_all [isFrom]
theorem isShare_true {w:Wd} (h:isShare w=true):∃ x y,w=.pair x y:=by
  cases w <;> simp_all [isShare]
theorem or_none {H:Hp} {v:V} {w:Wd} {kd:Kd} {Q:VK} {E:XK} {self:V} (hw:IsW H v w) (e0:isWorth kd .non=true) (e1:w≠.non→isWorth kd w=isFrom w 0) (q:Q (.bl (isWorth kd w)) H) :
    tRet (tOrV (tIsN (tVar 1)) (tCallD spIsFrom E (tCons (tVar 1) (tCons (tC (.int 0)) tNil)))) { nx:=fun _ H'=>Q .non H',rt:=Q } (start ["self","some"] [self,v]) H:=by
  refine ⟨_,rfl,_,rfl,iteD (fun c=>?_) (fun c=>?_)⟩
  · subst c
    rcases isW_cases hw with ⟨_,rfl⟩ | ⟨i,z,_⟩ | ⟨p,x,y,z,_⟩
    · rw [e0] at q; exact q
    · cases z
    · cases z
  · refine ⟨_,rfl,v,w,_,rfl,hw,?_⟩
    rw [e1 (fun z=>by subst z; exact c (isW_non hw))] at q
    exact q
theorem sc_Fewest_is_worth:FnScope ["self","some"] ["self","some"] (defScope (inClass (top 21) 2)):=⟨rfl,rfl,rfl,by decide +kernel,rfl,by decide +kernel,by decide +kernel⟩
theorem sc_Widest_is_worth:FnScope ["self","some"] ["self","some"] (defScope (inClass (top 22) 2)):=⟨rfl,rfl,rfl,by decide +kernel,rfl,by decide +kernel,by decide +kernel⟩
theorem sc_Counted_is_worth:FnScope ["self","some"] ["self","some"] (defScope (inClass (top 23) 2)):=⟨rfl,rfl,rfl,by decide +kernel,rfl,by decide +kernel,by decide +kernel⟩
theorem sc_Likeliest_is_worth:FnScope ["self","some"] ["self","some"] (defScope (inClass (top 24) 2)):=⟨rfl,rfl,rfl,by decide +kernel,rfl,by decide +kernel,by decide +kernel⟩
theorem sc_Chances_is_worth:FnScope ["self","some"] ["self","some"] (defScope (inClass (top 25) 2)):=⟨rfl,rfl,rfl,by decide +kernel,rfl,by decide +kernel,by decide +kernel⟩
theorem sc_Musts_is_worth:FnScope ["self","some"] ["self","some"] (defScope (inClass (top 26) 2)):=⟨rfl,rfl,rfl,by decide +kernel,rfl,by decide +kernel,by decide +kernel⟩
theorem sc_Rests_is_worth:FnScope ["self","some"] ["self","some"] (defScope (inClass (top 27) 3)):=⟨rfl,rfl,rfl,by decide +kernel,rfl,by decide +kernel,by decide +kernel⟩
structure IsWorthAt (K:PySem.W.Frag) (a:Adr):Prop where
  f0:MthAt K a.cFewest "is_worth" "Fewest.is_worth" (inClass (top 21) 2)
  f1:MthAt K a.cWidest "is_worth" "Widest.is_worth" (inClass (top 22) 2)
  f2:MthAt K a.cCounted "is_worth" "Counted.is_worth" (inClass (top 23) 2)
  f3:MthAt K a.cLikeliest "is_worth" "Likeliest.is_worth" (inClass (top 24) 2)
  f4:MthAt K a.cChances "is_worth" "Chances.is_worth" (inClass (top 25) 2)
  f5:MthAt K a.cMusts "is_worth" "Musts.is_worth" (inClass (top 26) 2)
  f6:MthAt K a.cRests "is_worth" "Rests.is_worth" (inClass (top 27) 3)
theorem v_is_worth (T:Tx K mg a) (D_is_from:Dn P w K mg base 1 "is_from" ["some","least"] spIsFrom) (D_is_share:Dn P w K mg base 2 "is_share" ["some"] spIsShare) (F:IsWorthAt K a) :
    Mth P w K mg base 3 a.cl "is_worth" ["self","some"] (fun i=>spIsWorth a i.1):=by
  refine ⟨fun ⟨kd,hk⟩=>?_⟩
  cases kd with
  | fewest =>
    refine m_of hk T F.f0 (fun _ _ _ _ _ _ us hl=>match us,hl with | [_,_],_=>rfl) fun f fd F=>?_
    refine F.okN sc_Fewest_is_worth (fun _ _ _ _=>sp_len) (fun cdv A outer s H vs Q E hr h=>?_)
    obtain ⟨p,v,w',rfl,_,ok,hw,q⟩:=h
    exact ⟨_,(pss_one (ps_ret (pe_or (pe_cmp (pc_isN (pv 1))) (pe_one (pe_callD D_is_from (hr.mono (by decide)) rfl passE0 (pa_cons (hs:=st_Name) (pv 1) (pa_cons (hs:=st_Constant) pe_int pa_nil))))))),or_none hw (by simp [isWorth]) (fun n=>by simp [isWorth,n]) q⟩
  | widest =>
    refine m_of hk T F.f1 (fun _ _ _ _ _ _ us hl=>match us,hl with | [_,_],_=>rfl) fun f fd F=>?_
    refine F.okN sc_Widest_is_worth (fun _ _ _ _=>sp_len) (fun cdv A outer s H vs Q E hr h=>?_)
    obtain ⟨p,v,w',rfl,_,ok,hw,q⟩:=h
    refine ⟨_,(pss_one (ps_ret (pe_and (pe_callD D_is_from (hr.mono (by decide)) rfl passE0 (pa_cons (hs:=st_Name) (pv 1) (pa_cons (hs:=st_Constant) pe_int pa_nil))) (pe_one (pe_cmpR op_le (pv 1) (pe_glob (v:=V.int 1000000000) rfl T.c_WIDEST ⟨_,rfl⟩) (nomark _)))))),?_⟩
    refine ⟨_,rfl,v,w',_,rfl,hw,_,rfl,iteB (fun c=>?_) (fun c=>?_)⟩
    · obtain ⟨i,rfl,hi⟩:=isFrom_true c
      obtain rfl:=isW_int hw
      refine ⟨_,rfl,_,_,rfl,rfl,?_⟩
      rw [show isWorth .widest (.int i)=decide (i≤1000000000) by simp [isWorth,hi]] at q
      exact q
    · rw [show isWorth .widest w'=false by cases w' <;> simp_all [isWorth,isFrom] <;> (intros; omega)] at q
      exact q
  | counted =>
    refine m_of hk T F.f2 (fun _ _ _ _ _ _ us hl=>match us,hl with | [_,_],_=>rfl) fun f fd F=>?_
    refine F.okN sc_Counted_is_worth (fun _ _ _ _=>sp_len) (fun cdv A outer s H vs Q E hr h=>?_)
    obtain ⟨p,v,w',rfl,_,ok,hw,q⟩:=h
    exact ⟨_,(pss_one (ps_ret (pe_callD D_is_from (hr.mono (by decide)) rfl passE0 (pa_cons (hs:=st_Name) (pv 1) (pa_cons (hs:=st_UnaryOp) (pe_un un_neg pe_int) pa_nil))))),⟨_,rfl,_,rfl,v,w',_,rfl,hw,q⟩⟩
  | likeliest =>
    refine m_of hk T F.f3 (fun _ _ _ _ _ _ us hl=>match us,hl with | [_,_],_=>rfl) fun f fd F=>?_
    refine F.okN sc_Likeliest_is_worth (fun _ _ _ _=>sp_len) (fun cdv A outer s H vs Q E hr h=>?_)
    obtain ⟨p,v,w',rfl,_,ok,hw,q⟩:=h
    refine ⟨_,(pss_one (ps_ret (pe_and (pe_callD D_is_share (hr.mono (by decide)) rfl passE0 (pa_cons (hs:=st_Name) (pv 1) pa_nil)) (pe_one (pe_chain op_le op_le pe_int (pe_ix ix_tup (pv 1) pe_int (fun _ _=>rfl)) (pe_ix ix_tup (pv 1) pe_int (fun _ _=>rfl))))))),?_⟩
    refine ⟨_,rfl,v,w',rfl,hw,_,rfl,iteB (fun c=>?_) (fun c=>?_)⟩
    · obtain ⟨x,y,rfl⟩:=isShare_true c
      obtain ⟨r,rfl,hp⟩:=isW_pair hw
      refine ⟨_,rfl,r,_,_,_,rfl,rfl,SqT.of hp,rfl,_,_,rfl,rfl,_,rfl,iteD (fun d=>?_) (fun d=>?_)⟩
      · refine ⟨_,rfl,r,_,_,_,rfl,rfl,SqT.of hp,rfl,_,_,rfl,rfl,?_⟩
        rw [show isWorth .likeliest (.pair x y)=decide (x≤y) by simp [isWorth,c,d]] at q
        exact q
      · rw [show isWorth .likeliest (.pair x y)=false by simp [isWorth,d]] at q
        exact q
    · rw [show isWorth .likeliest w'=false by cases w' <;> simp_all [isWorth]] at q
      exact q
  | chances =>
    refine m_of hk T F.f4 (fun _ _ _ _ _ _ us hl=>match us,hl with | [_,_],_=>rfl) fun f fd F=>?_
    refine F.okN sc_Chances_is_worth (fun _ _ _ _=>sp_len) (fun cdv A outer s H vs Q E hr h=>?_)
    obtain ⟨p,v,w',rfl,_,ok,hw,q⟩:=h
    refine ⟨_,(pss_one (ps_ret (pe_and (pe_callD D_is_share (hr.mono (by decide)) rfl passE0 (pa_cons (hs:=st_Name) (pv 1) pa_nil)) (pe_one (pe_cmpR op_ge (pe_ix ix_tup (pv 1) pe_int (fun _ _=>rfl)) pe_int (nomark _)))))),?_⟩
    refine ⟨_,rfl,v,w',rfl,hw,_,rfl,iteB (fun c=>?_) (fun c=>?_)⟩
    · obtain ⟨x,y,rfl⟩:=isShare_true c
      obtain ⟨r,rfl,hp⟩:=isW_pair hw
      refine ⟨_,rfl,r,_,_,_,rfl,rfl,SqT.of hp,rfl,_,_,rfl,rfl,?_⟩
      rw [show isWorth .chances (.pair x y)=decide (0≤x) by simp [isWorth,c]] at q
      exact q
    · rw [show isWorth .chances w'=false by cases w' <;> simp_all [isWorth]] at q
      exact q
  | musts =>
    refine m_of hk T F.f5 (fun _ _ _ _ _ _ us hl=>match us,hl with | [_,_],_=>rfl) fun f fd F=>?_
    refine F.okN sc_Musts_is_worth (fun _ _ _ _=>sp_len) (fun cdv A outer s H vs Q E hr h=>?_)
    obtain ⟨p,v,w',rfl,_,ok,hw,q⟩:=h
    exact ⟨_,(pss_one (ps_ret (pe_or (pe_cmp (pc_isN (pv 1))) (pe_one (pe_callD D_is_from (hr.mono (by decide)) rfl passE0 (pa_cons (hs:=st_Name) (pv 1) (pa_cons (hs:=st_Constant) pe_int pa_nil))))))),or_none hw (by simp [isWorth]) (fun n=>by simp [isWorth,n]) q⟩
  | rests m =>
    refine m_of (kd:=.rests m) hk T F.f6 (fun _ _ _ _ _ _ us hl=>match us,hl with | [_,_],_=>rfl) fun f fd F=>?_
    refine F.okN sc_Rests_is_worth (fun _ _ _ _=>sp_len) (fun cdv A outer s H vs Q E hr h=>?_)
    obtain ⟨p,v,w',rfl,⟨dx,hp⟩,ok,hw,q⟩:=h
    refine ⟨_,(pss_one (ps_ret (pe_and (pe_callD D_is_from (hr.mono (by decide)) rfl passE0 (pa_cons (hs:=st_Name) (pv 1) (pa_cons (hs:=st_Constant) pe_int pa_nil))) (pe_one (pe_cmpR op_lt (pv 1) (pe_op op_shl pe_int (pe_fld (pv 0) rfl)) (nomark _)))))),?_⟩
    refine ⟨_,rfl,v,w',_,rfl,hw,_,rfl,iteB (fun c=>?_) (fun c=>?_)⟩
    · obtain ⟨i,rfl,hi⟩:=isFrom_true c
      obtain rfl:=isW_int hw
      have o1:1≤m:=ok.1
      have o2:m≤12:=ok.2
      refine ⟨_,rfl,_,rfl,p,_,dx,_,_,rfl,hp,T.cl (.rests m) hk,T.na_Rests_m,rfl,_,_,rfl,rfl,⟨by omega,by omega,by decide⟩,_,_,rfl,rfl,?_⟩
      rw [show isWorth (.rests m) (.int i)=decide (i < 1 * 2 ^ (m:Int).toNat) by simp [isWorth,hi]] at q
      exact q
    · rw [show isWorth (.rests m) w'=false by cases w' <;> simp_all [isWorth,isFrom] <;> (intros; omega)] at q
      exact q
end
end K13
namespace K13
open PySem L2 Ws
seal PE PT PW PA PC PS PSs PG PGs PI PO PJ PTs
def IsRoad (H:Hp) (v:V) (r:Road):Prop:=∃ p wv,v=.ref p∧H p=some (.tup [.int r.f,.int r.t,wv])∧IsW H wv r.w
theorem IsRoad.same {H H':Hp} (e:Same H H') {v:V} {r:Road}:IsRoad H v r→IsRoad H' v r:=fun ⟨p,wv,e1,e2,e3⟩=>⟨p,wv,e1,e _ _ e2,e3.same e⟩
abbrev IsRoads (H:Hp):List V→List Road→Prop:=Paired (IsRoad H)
theorem IsRoads.same {H H':Hp} (e:Same H H') {vs:List V} {rs:List Road} (h:IsRoads H vs rs):IsRoads H' vs rs:=Paired.mapP h fun _ _ q=>q.same e
abbrev IsWs (H:Hp):List V→List Wd→Prop:=Paired (IsW H)
theorem IsWs.same {H H':Hp} (e:Same H H') {vs:List V} {rs:List Wd} (h:IsWs H vs rs):IsWs H' vs rs:=Paired.mapP h fun _ _ q=>q.same e
theorem pget {α β:Type} {F:α→β→Prop}:∀ {xs:List α} {ys:List β} {i:Nat} {x:α},Paired F xs ys→xs[i]?=some x→∃ y,ys[i]?=some y∧F x y
  | _ :: _,_ :: _,0,_,.cons h _,e=>⟨_,rfl,by simp at e; subst e; exact h⟩
  | _ :: _,_ :: _,i + 1,_,.cons _ t,e=>by
    obtain ⟨y,e',h⟩:=pget (i:=i) t (by simpa using e)
    exact ⟨y,by simpa using e',h⟩
structure NetIs (a:Adr) (H:Hp) (p:Addr) (kd:Kd) (n:Nat) (kp tp:Addr) (vs:List V) (rs:List Road):Prop where
  ins:∃ dx,H p=some (.ins a.cNet dx [("own_kind",.ref kp),("how_many",.int (n:Int)),("own_roads",.ref tp)])
  kind:KindAt a H kp kd
  tup:H tp=some (.tup vs)
  rds:IsRoads H vs rs
theorem KindAt.same {a:Adr} {H H':Hp} {p:Addr} {kd:Kd} (e:Same H H'):KindAt a H p kd→KindAt a H' p kd:=fun ⟨dx,h⟩=>⟨dx,e _ _ h⟩
theorem NetIs.same {a:Adr} {H H':Hp} {p:Addr} {kd:Kd} {n:Nat} {kp tp:Addr} {vs:List V} {rs:List Road} (e:Same H H') (h:NetIs a H p kd n kp tp vs rs):NetIs a H' p kd n kp tp vs rs :=
  ⟨let ⟨dx,q⟩:=h.ins; ⟨dx,e _ _ q⟩,h.kind.same e,e _ _ h.tup,h.rds.same e⟩
theorem lines {n:Nat} (h:n≤1000):n < sizeLine:=by rw [sizeLine_eq]; omega
section
variable {P : Program} {w : World} {K : PySem.W.Frag} {mg : Str → Option Value} {base : Heap} {a : Adr}
def spNums (a:Adr):Sp:=fun vs H Q E=>∃ (n:Int) (rl:Addr) (xs:List V),vs=[.int n,.ref rl]∧H rl=some (.lst xs)∧n.natAbs.log2 < 1920∧(numsOk n xs.length=true→Q .non H)∧(numsOk n xs.length=false→E (.ref a.cNoNet) none H)
theorem sc_check_numbers:FnScope ["places","roads"] ["places","roads"] (defScope (top 31)):=⟨rfl,rfl,rfl,by decide +kernel,rfl,by decide +kernel,by decide +kernel⟩
theorem d_check_numbers (T:Tx K mg a) (F:DefAt K mg "check_numbers" (top 31)):Dn P w K mg base 1 "check_numbers" ["places","roads"] (spNums a):=by
  obtain ⟨f,fd,hm,F⟩:=F.ex
  refine ⟨f,fd,hm,F.kp,F.binds fun _ _ _ _ _ _ us hl=>match us,hl with | [_,_],_=>rfl,?_⟩
  refine F.okX sc_check_numbers (fun vs H Q E h=>?_) (fun cdv A outer s H vs Q E hr h=>?_)
  · obtain ⟨_,_,_,rfl,_⟩:=h
    rfl
  · obtain ⟨n,rl,xs,rfl,hx,hl,q,e⟩:=h
    refine ⟨_,(pss_cons (ps_if (PW.pt (pw_or (pt_cmpR op_lt (pv 0) pe_int (nomark _)) (pw_or1 (pt_cmpR op_gt (pv 0) (pe_glob (v:=V.int 8) rfl T.c_MOST_PLACES ⟨_,rfl⟩) (nomark _))))) (pss_one (ps_raise T.x_NoNet rfl rfl rais_cx (pa_cons (hs:=st_JoinedStr) (pe_fstr2 (pv 0)) pa_nil))) pss_nil)
      (pss_one (ps_if (pt_cmpR op_gt (pe_callB call_len_seq rfl T.b_len bt_len (pa_cons (hs:=st_Name) (pv 1) pa_nil)) (pe_glob (v:=V.int 64) rfl T.c_MOST_ROADS ⟨_,rfl⟩) (nomark _)) (pss_one (ps_raise T.x_NoNet rfl rfl rais_cx (pa_cons (hs:=st_Constant) pe_str pa_nil))) pss_nil))),?_⟩
    have hs:(Str.ofString "a net has 1 to 8 places, not ").length≤1000:=by decide +kernel
    have no:¬ (1≤n∧n≤8∧xs.length≤64)→numsOk n xs.length=false:=fun z=>by
      simp only [numsOk,Bool.and_eq_false_iff,decide_eq_false_iff_not]; omega
    refine ⟨_,rfl,_,_,rfl,rfl,_,rfl,iteD (fun c=>?_) (fun c=>?_)⟩
    · exact ⟨hs,_,rfl,_,rfl,hl,fun z=>⟨by show 1≤sizeLine; decide,e (no (by omega))⟩⟩
    · refine ⟨_,rfl,_,_,rfl,rfl,_,rfl,iteD (fun c2=>?_) (fun c2=>?_)⟩
      · exact ⟨hs,_,rfl,_,rfl,hl,fun z=>⟨by show 1≤sizeLine; decide,e (no (by omega))⟩⟩
      · refine ⟨_,rfl,rl,_,rfl,.inl (SqL.of hx),_,_,rfl,rfl,_,rfl,iteD (fun c3=>?_) (fun c3=>?_)⟩
        · exact ⟨by show 1≤sizeLine; decide,e (no (by omega))⟩
        · exact q (by simp only [numsOk,Bool.and_eq_true,decide_eq_true_eq]; omega)
def spEnds (a:Adr):Sp:=fun vs H Q E=>∃ (n:Int) (rl:Addr) (xs:List V) (rs:List Road),vs=[.int n,.ref rl]∧H rl=some (.lst xs)∧IsRoads H xs rs∧xs.length≤64∧(rs.all (endOk n)=true→∀ H',Same H H'→Q .non H')∧(rs.all (endOk n)=false→∀ H',Same H H'→E (.ref a.cNoNet) none H')
theorem all_take {α:Type} {p:α→Bool} {l:List α} {i:Nat} {x:α} (h:(l.take i).all p=true) (e:l[i]?=some x) (hx:p x=true):(l.take (i + 1)).all p=true:=by
  rw [List.take_add_one,e,List.all_append,h]
  simp [hx]
theorem all_not {α:Type} {p:α→Bool} {l:List α} {i:Nat} {x:α} (e:l[i]?=some x) (hx:p x=false):l.all p=false:=by
  rw [List.all_eq_false]
  exact ⟨x,List.mem_of_getElem? e,by simp [hx]⟩
theorem sc_check_ends:FnScope ["places","roads","number","road"] ["places","roads"] (defScope (top 32)):=⟨rfl,rfl,rfl,by decide +kernel,rfl,by decide +kernel,by decide +kernel⟩
theorem d_check_ends (T:Tx K mg a) (F:DefAt K mg "check_ends" (top 32)):Dn P w K mg base 1 "check_ends" ["places","roads"] (spEnds a):=by
  obtain ⟨f,fd,hm,F⟩:=F.ex
  refine ⟨f,fd,hm,F.kp,F.binds fun _ _ _ _ _ _ us hl=>match us,hl with | [_,_],_=>rfl,?_⟩
  refine F.okX sc_check_ends (fun vs H Q E h=>?_) (fun cdv A outer s H vs Q E hr h=>?_)
  · obtain ⟨_,_,_,_,rfl,_⟩:=h
    rfl
  · obtain ⟨n,rl,xs,rs,rfl,hx,hR,h64,q,e⟩:=h
    refine ⟨_,(pss_one (ps_for own_cx rfl (pi_enum rfl T.b_enumerate (pa_cons (hs:=st_Name) (pv 1) pa_nil)) (pg_tup rfl (pgs_cons (pg_name (i:=2) sc_check_ends.nd rfl (Or.inl rfl)) (pgs_cons (pg_name (i:=3) sc_check_ends.nd rfl (Or.inl rfl)) pgs_nil))) (pss_one (ps_if (pt_not (PW.pt (pw_and (pt_chain op_le op_lt pe_int (pe_ix ix_tup (pv 3) pe_int (fun _ _=>rfl)) (pv 0)) (pw_and1 (pt_chain op_le op_lt pe_int (pe_ix ix_tup (pv 3) pe_int (fun _ _=>rfl)) (pv 0)))))) (pss_one (ps_raise T.x_NoNet rfl rfl rais_cx (pa_cons (hs:=st_JoinedStr) (pe_fstrN (pj_str (pj_int (pv 2) (pj_str pj_nil)))) pa_nil))) pss_nil)))),?_⟩
    have hs1:(Str.ofString "an end of road ").length≤1000:=by decide +kernel
    have hs2:(Str.ofString " is no place").length≤1000:=by decide +kernel
    have hl:=hR.length
    refine ⟨_,rfl,rl,rfl,⟨xs,SqL.of hx⟩,for_enum (xs:=xs) (fun i σ H'=>∃ u v,σ=[some (.int n),some (.ref rl),u,v]∧Same H H'∧(rs.take i).all (endOk n)=true) ⟨_,_,rfl,Same.refl H,by simp⟩ (fun i σ H' _ ⟨_,_,_,s',_⟩=>SqL.of (s' _ _ hx)) ?_ ?_⟩
    · rintro i x σ H' p ex ⟨u,v,rfl,s',al⟩ np
      obtain ⟨r,er,pr,wv,rfl,e2,e3⟩:=pget hR ex
      have s2:Same H (upd H' p (.tup [.int (i:Nat),.ref pr])):=s'.trans (same_one np)
      have e4:=s2 _ _ e2
      have hi:i < xs.length:=(List.getElem?_eq_some_iff.mp ex).1
      have li:((i:Nat):Int).natAbs.log2 < 1920:=by
        refine log2_small ?_
        have:(64:Nat) < 10 ^ 62:=by decide
        omega
      have bad:endOk n r=false→E (.ref a.cNoNet) none (upd H' p (.tup [.int (i:Nat),.ref pr])):=fun z=>e (all_not er z) _ s2
      refine ⟨p,_,rfl,SqT.of upd_same,rfl,_,_,rfl,_,_,rfl,rfl,?_⟩
      have rz:endOk n r=false→_:=fun z=>(⟨hs1,_,rfl,_,rfl,li,hs2,fun z2=>⟨by show 1≤sizeLine; decide,bad z⟩⟩ :
        tRaise a.cNoNet E (tCons (tFsN fun σ H Q=>(Str.ofString "an end of road ").length≤1000∧tVar 2 σ H fun x H1=>∃ i,x=V.int i∧i.natAbs.log2 < 1920∧(Str.ofString " is no place").length≤1000∧Q H1) tNil) { nx:=fun _ H'=>Q .non H',rt:=Q } [some (.int n),some (.ref rl),some (.int (i:Nat)),some (.ref pr)] (upd H' p (.tup [.int (i:Nat),.ref pr])))
      have no:¬ (0≤r.f∧r.f < n∧0≤r.t∧r.t < n)→endOk n r=false:=fun z=>by
        simp only [endOk,Bool.and_eq_false_iff,decide_eq_false_iff_not]; omega
      refine ⟨_,rfl,pr,_,_,_,rfl,rfl,SqT.of e4,rfl,_,_,rfl,rfl,_,rfl,iteD (fun c1=>?_) (fun c1=>⟨_,rfl,iteF (iteT (rz (no (by omega))))⟩)⟩
      refine ⟨_,rfl,_,_,rfl,rfl,_,rfl,iteD (fun c2=>?_) (fun c2=>iteT (rz (no (by omega))))⟩
      refine ⟨_,rfl,pr,_,_,_,rfl,rfl,SqT.of e4,rfl,_,_,rfl,rfl,_,rfl,iteD (fun c3=>?_) (fun c3=>⟨_,rfl,iteT (rz (no (by omega)))⟩)⟩
      refine ⟨_,rfl,_,_,rfl,rfl,_,rfl,?_⟩
      by_cases c4:r.t < n
      · rw [decide_eq_true c4]
        exact iteF ⟨_,_,rfl,s2,all_take al er (by simp only [endOk,Bool.and_eq_true,decide_eq_true_eq]; omega)⟩
      · rw [decide_eq_false c4]
        exact iteT (rz (no (by omega)))
    · rintro σ H' ⟨u,v,rfl,s',al⟩
      exact q (by rw [hl,List.take_length] at al; exact al) _ s'
def spMay (a:Adr) (kd:Kd):Sp:=fun vs H Q _=>∃ (p lp:Addr) (xs:List V) (ws:List Wd),vs=[.ref p,.ref lp]∧KindAt a H p kd∧H lp=some (.lst xs)∧IsWs H xs ws∧ws.length≤64∧(kd=.chances→∀ x∈ws,Sm 4000 x)∧∀ H',Same H H'→Q (.bl (mayB kd ws)) H'
theorem sc_Kind_may_start_together:FnScope ["self","somes"] ["self","somes"] (defScope (inClass (top 20) 7)):=⟨rfl,rfl,rfl,by decide +kernel,rfl,by decide +kernel,by decide +kernel⟩
theorem sc_Chances_may_start_together:FnScope ["self","somes","all_of_them","some"] ["self","somes"] (defScope (inClass (top 25) 6)):=⟨rfl,rfl,rfl,by decide +kernel,rfl,by decide +kernel,by decide +kernel⟩
structure At_may_start_together (K:PySem.W.Frag) (a:Adr):Prop where
  fFewest:MthAt K a.cFewest "may_start_together" "Kind.may_start_together" (inClass (top 20) 7)
  fWidest:MthAt K a.cWidest "may_start_together" "Kind.may_start_together" (inClass (top 20) 7)
  fCounted:MthAt K a.cCounted "may_start_together" "Kind.may_start_together" (inClass (top 20) 7)
  fLikeliest:MthAt K a.cLikeliest "may_start_together" "Kind.may_start_together" (inClass (top 20) 7)
  fChances:MthAt K a.cChances "may_start_together" "Chances.may_start_together" (inClass (top 25) 6)
  fMusts:MthAt K a.cMusts "may_start_together" "Kind.may_start_together" (inClass (top 20) 7)
  fRests:MthAt K a.cRests "may_start_together" "Kind.may_start_together" (inClass (top 20) 7)
theorem len_may {kd:Kd} {vs:List V} {H:Hp} {Q:VK} {E:XK} (h:spMay a kd vs H Q E):vs.length=2:=by
  obtain ⟨_,_,_,_,rfl,_⟩:=h
  rfl
theorem shSum_take {ws:List Wd} {i:Nat} {x:Wd} (e:ws[i]?=some x):shSum (ws.take (i + 1))=if isShare x=true then shSum (ws.take i) + toR x else shSum (ws.take i):=by
  unfold shSum
  rw [List.take_add_one,e,List.filter_append,List.map_append,List.sum_append]
  split
  · rename_i h; simp [h,Rat.add_zero]
  · rename_i h; simp [h,Rat.add_zero]
theorem v_may (T:Tx K mg a) (V_none:Mth P w K mg base 1 a.cl "none" ["self"] (fun i=>spZero a i.1)) (D_is_share:Dn P w K mg base 2 "is_share" ["some"] spIsShare) (D_added:Dn P w K mg base 34 "added" ["one","other"] (spTwo fun p q=>p + q))
    (D_lacking_to_one:Dn P w K mg base 34 "lacking_to_one" ["share"] spLack) (F:At_may_start_together K a):Mth P w K mg base 36 a.cl "may_start_together" ["self","somes"] (fun i=>spMay a i.1):=by
  refine ⟨fun ⟨kd,hk⟩=>?_⟩
  cases kd with
  | fewest =>
    refine m_of hk T F.fFewest (fun _ _ _ _ _ _ us hl=>match us,hl with | [_,_],_=>rfl) fun f fd F=>F.okN sc_Kind_may_start_together (fun _ _ _ _=>len_may) (fun cdv A outer s H vs Q E hr h=>?_)
    obtain ⟨p,lp,xs,ws,rfl,_,_,_,_,_,q⟩:=h
    exact ⟨_,(pss_one (ps_ret pe_bl)),q _ (Same.refl H)⟩
  | widest =>
    refine m_of hk T F.fWidest (fun _ _ _ _ _ _ us hl=>match us,hl with | [_,_],_=>rfl) fun f fd F=>F.okN sc_Kind_may_start_together (fun _ _ _ _=>len_may) (fun cdv A outer s H vs Q E hr h=>?_)
    obtain ⟨p,lp,xs,ws,rfl,_,_,_,_,_,q⟩:=h
    exact ⟨_,(pss_one (ps_ret pe_bl)),q _ (Same.refl H)⟩
  | counted =>
    refine m_of hk T F.fCounted (fun _ _ _ _ _ _ us hl=>match us,hl with | [_,_],_=>rfl) fun f fd F=>F.okN sc_Kind_may_start_together (fun _ _ _ _=>len_may) (fun cdv A outer s H vs Q E hr h=>?_)
    obtain ⟨p,lp,xs,ws,rfl,_,_,_,_,_,q⟩:=h
    exact ⟨_,(pss_one (ps_ret pe_bl)),q _ (Same.refl H)⟩
  | likeliest =>
    refine m_of hk T F.fLikeliest (fun _ _ _ _ _ _ us hl=>match us,hl with | [_,_],_=>rfl) fun f fd F=>F.okN sc_Kind_may_start_together (fun _ _ _ _=>len_may) (fun cdv A outer s H vs Q E hr h=>?_)
    obtain ⟨p,lp,xs,ws,rfl,_,_,_,_,_,q⟩:=h
    exact ⟨_,(pss_one (ps_ret pe_bl)),q _ (Same.refl H)⟩
  | chances =>
    refine m_of hk T F.fChances (fun _ _ _ _ _ _ us hl=>match us,hl with | [_,_],_=>rfl) fun f fd F=>F.okN sc_Chances_may_start_together (fun _ _ _ _=>len_may) (fun cdv A outer s H vs Q E hr h=>?_)
    obtain ⟨p,lp,xs,ws,rfl,⟨dx,hp⟩,hx,hW,h64,sm,q⟩:=h
    have sm:=sm rfl
    refine ⟨_,(pss_cons (ps_set (i:=2) sc_Chances_may_start_together.nd rfl (Or.inl rfl) (pe_methV0 (pv 0) V_none (hr.mono (by decide)) passE0))
      (pss_cons (ps_for PassesOwn.never rfl (pi_list (pv 1)) (pg_name (i:=3) sc_Chances_may_start_together.nd rfl (Or.inl rfl)) (pss_one (ps_if (pt_val (pe_callD D_is_share (hr.mono (by decide)) rfl passE0 (pa_cons (hs:=st_Name) (pv 3) pa_nil)) (fun _=>rfl)) (pss_one (ps_set (i:=2) sc_Chances_may_start_together.nd rfl (Or.inl rfl) (pe_callD D_added (hr.mono (by decide)) rfl passE0 (pa_cons (hs:=st_Name) (pv 2) (pa_cons (hs:=st_Name) (pv 3) pa_nil))))) pss_nil)))
      (pss_one (ps_ret (pe_cmpR op_ge (pe_ix ix_tup (pe_callD D_lacking_to_one (hr.mono (by decide)) rfl passE0 (pa_cons (hs:=st_Name) (pv 2) pa_nil)) pe_int (fun _ _=>rfl)) pe_int (nomark _)))))),?_⟩
    refine ⟨_,rfl,⟨.chances,hk⟩,p,dx,_,rfl,hp,kfs_no _ (by decide +kernel),p,trivial,rfl,⟨dx,hp⟩,fun v0 H0 s0 hv0=>?_⟩
    refine ⟨_,rfl,lp,rfl,⟨xs,SqL.of (s0 _ _ hx)⟩,for_list (xs:=xs) (fun i σ H'=>∃ v l,σ=[some (.ref p),some (.ref lp),some v,l]∧Same H H'∧IsW H' v (ofR (shSum (ws.take i)))∧Sm (4001 * i + 30) (ofR (shSum (ws.take i))))
      ⟨v0,_,rfl,s0,hv0,(show Sm 30 (ofR 0) by decide)⟩ (fun i σ H' _ ⟨_,_,_,s',_⟩=>SqL.of (s' _ _ hx)) ?_ ?_⟩
    · rintro i x σ H' ex ⟨v,l,rfl,s',hv,sv⟩
      obtain ⟨y,ey,hy⟩:=pget hW ex
      have hi:i < 64:=by have:=(List.getElem?_eq_some_iff.mp ey).1; omega
      refine ⟨_,rfl,x,y,rfl,hy.same s',_,rfl,iteB (fun c=>?_) (fun c=>?_)⟩
      · have ey2:=ofR_toR c
        have sy:=sm y (List.mem_of_getElem? ey)
        refine ⟨_,rfl,_,rfl,v,x,_,toR y,rfl,hv,by rw [ey2]; exact hy.same s',sv.mono (by show _≤16000000; omega),by rw [ey2]; exact sy.mono (by decide),fun v2 H2 s2 hv2=>⟨v2,_,rfl,s'.trans s2,?_,?_⟩⟩
        · rw [shSum_take ey,if_pos c]; exact hv2
        · rw [shSum_take ey,if_pos c]
          have:=sm_addR sv (by rw [ey2]; exact sy)
          exact this.mono (by omega)
      · refine ⟨v,_,rfl,s',?_,?_⟩
        · rw [shSum_take ey,if_neg (by simp [c])]; exact hv
        · rw [shSum_take ey,if_neg (by simp [c])]; exact sv.mono (by omega)
    · rintro σ H' ⟨v,l,rfl,s',hv,sv⟩
      refine ⟨_,rfl,v,_,rfl,hv,fun v2 H2 s2 hv2=>?_⟩
      obtain ⟨r,rfl,er⟩:=isW_pair hv2
      refine ⟨r,_,_,_,rfl,rfl,SqT.of er,rfl,_,_,rfl,rfl,?_⟩
      rw [hW.length,List.take_length] at er
      have e:decide (0≤(1 - shSum (List.take xs.length ws)).num)=mayB .chances ws:=by
        rw [hW.length,List.take_length]
        show _=decide (shSum ws≤1)
        refine decide_eq_decide.mpr ⟨fun z=>?_,fun z=>?_⟩
        · have:=Rat.num_nonneg.mp z; grind
        · exact Rat.num_nonneg.mpr (by grind)
      dsimp only
      rw [e]
      exact q _ (s'.trans s2)
  | musts =>
    refine m_of hk T F.fMusts (fun _ _ _ _ _ _ us hl=>match us,hl with | [_,_],_=>rfl) fun f fd F=>F.okN sc_Kind_may_start_together (fun _ _ _ _=>len_may) (fun cdv A outer s H vs Q E hr h=>?_)
    obtain ⟨p,lp,xs,ws,rfl,_,_,_,_,_,q⟩:=h
    exact ⟨_,(pss_one (ps_ret pe_bl)),q _ (Same.refl H)⟩
  | rests m =>
    refine m_of (kd:=.rests m) hk T F.fRests (fun _ _ _ _ _ _ us hl=>match us,hl with | [_,_],_=>rfl) fun f fd F=>F.okN sc_Kind_may_start_together (fun _ _ _ _=>len_may) (fun cdv A outer s H vs Q E hr h=>?_)
    obtain ⟨p,lp,xs,ws,rfl,_,_,_,_,_,q⟩:=h
    exact ⟨_,(pss_one (ps_ret pe_bl)),q _ (Same.refl H)⟩
def spStarts (a:Adr):Sp:=fun vs H Q E=>∃ (kd:Kd) (kp:Addr) (n:Int) (rl:Addr) (xs:List V) (rs:List Road),vs=[.ref kp,.int n,.ref rl]∧KindAt a H kp kd∧HasK kd∧1≤n∧n≤8∧H rl=some (.lst xs)∧IsRoads H xs rs∧xs.length≤64∧(kd=.chances→∀ r∈rs,Sm 4000 r.w) ∧
  (startsOk kd n rs=true→∀ H',Same H H'→Q .non H')∧(startsOk kd n rs=false→∀ H',Same H H'→E (.ref a.cNoNet) none H')
theorem frm_take {p:Int} {rs:List Road} {i:Nat} {r:Road} (e:rs[i]?=some r):frm p (rs.take (i + 1))=if r.f=p then frm p (rs.take i) ++ [r.w] else frm p (rs.take i):=by
  unfold frm
  rw [List.take_add_one,e,List.filter_append,List.map_append]
  split
  · rename_i h; simp [h]
  · rename_i h; simp [h]
theorem Paired.snoc' {α β:Type} {F:α→β→Prop} {x:α} {y:β} {xs:List α} {ys:List β} (h:Paired F xs ys) (e:F x y):Paired F (xs ++ [x]) (ys ++ [y]):=Paired.snoc h e
theorem sc_check_starts:FnScope ["kind","places","roads","place"] ["kind","places","roads"] (defScope (top 33)):=⟨rfl,rfl,rfl,by decide +kernel,rfl,by decide +kernel,by decide +kernel⟩
theorem d_check_starts (T : Tx K mg a) (V_may_start_together : Mth P w K mg base 36 a.cl "may_start_together" ["self", "somes"] (fun i => spMay a i.1)) (F : DefAt K mg "check_starts" (top 33)) : Dn P w K mg base 37 "check_starts" ["kind", "places", "roads"] (spStarts a) := by
  obtain ⟨f, fd, hm, F⟩ := F.ex
  refine ⟨f, fd, hm, F.kp, F.binds fun _ _ _ _ _ _ us hl => match us, hl with | [_, _, _], _ => rfl, ?_⟩
  refine F.okX sc_check_starts (fun vs H Q E h => ?_) (fun cdv A outer s H vs Q E hr h => ?_)
  · obtain ⟨_, _, _, _, _, _, rfl, _⟩ := h
    rfl
  · obtain ⟨kd, kp, n, rl, xs, rs, rfl, ⟨dx, hk⟩, hK, n1, n8, hx, hR, h64, sm, q, e⟩ := h
    refine ⟨_, (pss_one (ps_for own_cx rfl (pi_range1 rfl T.b_range (pa_cons (hs := st_Name) (pv 1) pa_nil)) (pg_name (i := 3) sc_check_starts.nd rfl (Or.inr rfl)) (pss_one (ps_if (pt_not (pt_val (pe_methV (pv 0) V_may_start_together (hr.mono (by decide)) pass_cx (pa_cons (hs := st_ListComp) (pe_comp (N := ["kind", "places", "roads", "place"]) (osc := defScope (top 33)) (k := 1) (N' := ["road", "place"]) (fr := [3]) ⟨rfl, by decide +kernel, by decide +kernel, by decide +kernel, rfl, by decide +kernel, by decide +kernel⟩ rfl rfl rfl (pi_list (pv 2)) (fun ca => ⟨(pg_name (i := 0) (show List.Nodup (["road", "place"] : List Str) from by decide +kernel) rfl (Or.inl rfl)), (pts_one (pt_cmpR op_eq (pe_ix ix_tup (pv 0) pe_int (fun _ _ => rfl)) (pv 1) (nomark _))), (pe_ix ix_tup (pv 0) pe_int (fun _ _ => rfl))⟩)) pa_nil)) (fun _ => rfl))) (pss_one (ps_raise T.x_NoNet rfl rfl rais_cx (pa_cons (hs := st_JoinedStr) (pe_fstrN (pj_str (pj_int (pv 3) (pj_str pj_nil)))) pa_nil))) pss_nil)))), ?_⟩
    have hs1 : (Str.ofString "the roads that go from place ").length ≤ 1000 := by decide +kernel
    have hs2 : (Str.ofString " come to more than 1").length ≤ 1000 := by decide +kernel
    have hl := hR.length
    refine ⟨_, rfl, n, rfl, by omega, by omega, for_range (n := n.toNat) (fun i σ H' => ∃ u, σ = [some (.ref kp), some (.int n), some (.ref rl), u] ∧ Same H H' ∧ (List.range i).all (fun p => mayB kd (frm (p : Int) rs)) = true) ⟨_, rfl, Same.refl H, by simp⟩ ?_ ?_⟩
    · rintro i σ H' hi ⟨u, rfl, s', al⟩
      refine ⟨_, rfl, ⟨kd, hK⟩, kp, dx, _, rfl, s' _ _ hk, kfs_no _ (by decide +kernel), ?_⟩
      refine ⟨_, rfl, rl, rfl, ⟨xs, SqL.of (s' _ _ hx)⟩, comp_list (xs := xs) (fun j ys H2 => Same H H2 ∧ IsWs H2 ys (frm (0 + (i : Nat)) (rs.take j))) (lines (by omega)) ⟨s', by simp [frm]; exact .nil⟩ (fun j ys H2 _ ⟨s2, _⟩ => SqL.of (s2 _ _ hx)) ?_ ?_⟩
      · rintro j x ys H2 ex ⟨s2, hy⟩ ca
        obtain ⟨r, er, pr, wv, rfl, e2, e3⟩ := pget hR ex
        refine ⟨⟨rfl, rfl⟩, _, rfl, pr, _, _, _, rfl, rfl, SqT.of (s2 _ _ e2), rfl, _, rfl, rfl, _, rfl, iteEqI (fun c => ?_) (fun c => ?_)⟩
        · refine ⟨_, rfl, pr, _, _, _, rfl, rfl, SqT.of (s2 _ _ e2), rfl, s2, ?_⟩
          rw [frm_take er, if_pos c]
          exact hy.snoc (e3.same s2)
        · refine ⟨s2, ?_⟩
          rw [frm_take er, if_neg c]
          exact hy
      · rintro ys H2 ⟨s2, hy⟩ lp nl
        rw [hl, List.take_length] at hy
        have s3 : Same H (upd H2 lp (.lst ys)) := s2.trans (same_one nl)
        have fl := frm_len (0 + (i : Nat)) rs
        refine ⟨kp, lp, ys, frm (0 + (i : Nat)) rs, rfl, ⟨dx, s3 _ _ hk⟩, upd_same, hy.same (same_one nl), by omega, fun ec x hx' => ?_, fun H4 s4 => ⟨_, rfl, ?_⟩⟩
        · obtain ⟨r, hr', rfl⟩ := List.mem_map.mp hx'
          exact sm ec r (List.mem_filter.mp hr').1
        · have s5 := s3.trans s4
          have ei : (0 + (i : Int)) = (i : Int) := by omega
          cases c : mayB kd (frm (0 + (i : Nat)) rs) with
          | true =>
            refine iteF ⟨_, rfl, s5, ?_⟩
            rw [List.range_succ, List.all_append, al]
            rw [ei] at c
            simp [c]
          | false =>
            refine iteT ⟨hs1, _, rfl, _, rfl, log2_small (by have : (8 : Nat) < 10 ^ 62 := by decide
                                                             omega), hs2, fun z => ⟨by show 1 ≤ sizeLine; decide, e ?_ _ s5⟩⟩
            rw [startsOk, List.all_eq_false]
            rw [ei] at c
            exact ⟨i, List.mem_range.mpr hi, by simp [c]⟩
    · rintro σ H' ⟨u, rfl, s', al⟩
      exact q al _ s'
def spWorths (a:Adr):Sp:=fun vs H Q E=>∃ (kd:Kd) (kp:Addr) (rl:Addr) (xs:List V) (rs:List Road),vs=[.ref kp,.ref rl]∧KindAt a H kp kd∧HasK kd∧KdOk kd∧H rl=some (.lst xs)∧IsRoads H xs rs∧xs.length≤64 ∧
  (worthsOk kd rs=true→∀ H',Same H H'→Q .non H')∧(worthsOk kd rs=false→∀ H',Same H H'→E (.ref a.cNoWorth) none H')
theorem sc_check_worths:FnScope ["kind","roads","number","road"] ["kind","roads"] (defScope (top 34)):=⟨rfl,rfl,rfl,by decide +kernel,rfl,by decide +kernel,by decide +kernel⟩
theorem d_check_worths (T : Tx K mg a) (V_is_worth : Mth P w K mg base 3 a.cl "is_worth" ["self", "some"] (fun i => spIsWorth a i.1)) (F : DefAt K mg "check_worths" (top 34)) : Dn P w K mg base 4 "check_worths" ["kind", "roads"] (spWorths a) := by
  obtain ⟨f, fd, hm, F⟩ := F.ex
  refine ⟨f, fd, hm, F.kp, F.binds fun _ _ _ _ _ _ us hl => match us, hl with | [_, _], _ => rfl, ?_⟩
  refine F.okX sc_check_worths (fun vs H Q E h => ?_) (fun cdv A outer s H vs Q E hr h => ?_)
  · obtain ⟨_, _, _, _, _, rfl, _⟩ := h
    rfl
  · obtain ⟨kd, kp, rl, xs, rs, rfl, ⟨dx, hk⟩, hK, ok, hx, hR, h64, q, e⟩ := h
    refine ⟨_, (pss_one (ps_for own_cx rfl (pi_enum rfl T.b_enumerate (pa_cons (hs := st_Name) (pv 1) pa_nil)) (pg_tup rfl (pgs_cons (pg_name (i := 2) sc_check_worths.nd rfl (Or.inl rfl)) (pgs_cons (pg_name (i := 3) sc_check_worths.nd rfl (Or.inl rfl)) pgs_nil))) (pss_one (ps_if (pt_not (pt_val (pe_methV (pv 0) V_is_worth (hr.mono (by decide)) pass_cx (pa_cons (hs := st_Subscript) (pe_ix ix_tup (pv 3) pe_int (fun _ _ => rfl)) pa_nil)) (fun _ => rfl))) (pss_one (ps_raise T.x_NoWorth rfl rfl rais_cx (pa_cons (hs := st_JoinedStr) (pe_fstrN (pj_str (pj_int (pv 2) (pj_str pj_nil)))) pa_nil))) pss_nil)))), ?_⟩
    have hs1 : (Str.ofString "the worth of road ").length ≤ 1000 := by decide +kernel
    have hs2 : (Str.ofString " is none of the kind").length ≤ 1000 := by decide +kernel
    have hl := hR.length
    refine ⟨_, rfl, rl, rfl, ⟨xs, SqL.of hx⟩, for_enum (xs := xs) (fun i σ H' => ∃ u v, σ = [some (.ref kp), some (.ref rl), u, v] ∧ Same H H' ∧ worthsOk kd (rs.take i) = true) ⟨_, _, rfl, Same.refl H, by simp [worthsOk]⟩ (fun i σ H' _ ⟨_, _, _, s', _⟩ => SqL.of (s' _ _ hx)) ?_ ?_⟩
    · rintro i x σ H' p ex ⟨u, v, rfl, s', al⟩ np
      obtain ⟨r, er, pr, wv, rfl, e2, e3⟩ := pget hR ex
      have s2 : Same H (upd H' p (.tup [.int (i : Nat), .ref pr])) := s'.trans (same_one np)
      have hi : i < xs.length := (List.getElem?_eq_some_iff.mp ex).1
      refine ⟨p, _, rfl, SqT.of upd_same, rfl, _, _, rfl, _, _, rfl, rfl, ?_⟩
      refine ⟨_, rfl, ⟨kd, hK⟩, kp, dx, _, rfl, s2 _ _ hk, kfs_no _ (by decide +kernel), _, rfl, pr, _, _, _, rfl, rfl, SqT.of (s2 _ _ e2), rfl, kp, wv, r.w, rfl, ⟨dx, s2 _ _ hk⟩, ok, e3.same s2, _, rfl, ?_⟩
      cases c : isWorth kd r.w with
      | true => exact iteF ⟨_, _, rfl, s2, all_take al er c⟩
      | false =>
        refine iteT ⟨hs1, _, rfl, _, rfl, log2_small (by have : (64 : Nat) < 10 ^ 62 := by decide
                                                         omega), hs2, fun z => ⟨by show 1 ≤ sizeLine; decide, e ?_ _ s2⟩⟩
        exact all_not er c
    · rintro σ H' ⟨u, v, rfl, s', al⟩
      exact q (by rw [hl, List.take_length] at al; exact al) _ s'
end
end K13
namespace K13
open PySem L2 Ws
seal PE PT PW PA PC PS PSs PG PGs PI PO PJ PTs
section
variable {P : Program} {w : World} {K : PySem.W.Frag} {mg : Str → Option Value} {base : Heap} {a : Adr}
def SameBut (self:Addr) (H H':Hp):Prop:=∀ p o,p≠self→H p=some o→H' p=some o
def spNet (a:Adr):Sp:=fun vs H Q E=>∃ (self dx:Addr) (kd:Kd) (kp:Addr) (n:Int) (rl:Addr) (xs:List V) (rs:List Road),vs=[.ref self,.ref kp,.int n,.ref rl]∧H self=some (.ins a.cNet dx [])∧KindAt a H kp kd∧HasK kd∧KdOk kd∧kp≠self∧n.natAbs.log2 < 1920∧H rl=some (.lst xs)∧IsRoads H xs rs ∧
  (kd=.chances→xs.length≤64→∀ r∈rs,Sm 4000 r.w) ∧
  (netYes kd n rs=true→worthsOk kd rs=true→∀ tp H',SameBut self H H'→H' self=some (.ins a.cNet dx [("own_kind",.ref kp),("how_many",.int n),("own_roads",.ref tp)])→H' tp=some (.tup xs)→Q .non H') ∧
  (netYes kd n rs=false→∀ H',Same H H'→E (.ref a.cNoNet) none H')∧(netYes kd n rs=true→worthsOk kd rs=false→∀ H',Same H H'→E (.ref a.cNoWorth) none H')
theorem sc_Net_init:FnScope ["self","kind","places","roads"] ["self","kind","places","roads"] (defScope (inClass (top 36) 0)):=⟨rfl,rfl,rfl,by decide +kernel,rfl,by decide +kernel,by decide +kernel⟩
theorem make_Net (T:Tx K mg a) (D_check_numbers:Dn P w K mg base 1 "check_numbers" ["places","roads"] (spNums a)) (D_check_ends:Dn P w K mg base 1 "check_ends" ["places","roads"] (spEnds a))
    (D_check_starts:Dn P w K mg base 37 "check_starts" ["kind","places","roads"] (spStarts a)) (D_check_worths:Dn P w K mg base 4 "check_worths" ["kind","roads"] (spWorths a))
    (F:MthAt K a.cNet "__init__" "Net.__init__" (inClass (top 36) 0)):Mkr P w K mg base 38 "Net" a.cNet ["self","kind","places","roads"] (spNet a):=by
  obtain ⟨f,fd,hf,hi,F⟩:=F.ex
  refine ⟨T.g_Net,f,fd,⟨T.mk_Net,hf,hi,T.kp_Net⟩,F.binds fun _ _ _ _ _ _ us hl=>match us,hl with | [_,_,_,_],_=>rfl,?_⟩
  refine F.okX sc_Net_init (fun vs H Q E h=>?_) (fun cdv A outer s H vs Q E hr h=>?_)
  · obtain ⟨_,_,_,_,_,_,_,_,rfl,_⟩:=h
    rfl
  · obtain ⟨self,dx,kd,kp,n,rl,xs,rs,rfl,hself,⟨kdx,hk⟩,hK,ok,nk,hn,hx,hR,sm,q,e1,e2⟩:=h
    refine ⟨_,(pss_cons (ps_expr (pe_callD D_check_numbers (hr.mono (by decide)) rfl pass_cx (pa_cons (hs:=st_Name) (pv 2) (pa_cons (hs:=st_Name) (pv 3) pa_nil))))
      (pss_cons (ps_expr (pe_callD D_check_ends (hr.mono (by decide)) rfl pass_cx (pa_cons (hs:=st_Name) (pv 2) (pa_cons (hs:=st_Name) (pv 3) pa_nil))))
      (pss_cons (ps_expr (pe_callD D_check_starts (hr.mono (by decide)) rfl pass_cx (pa_cons (hs:=st_Name) (pv 1) (pa_cons (hs:=st_Name) (pv 2) (pa_cons (hs:=st_Name) (pv 3) pa_nil)))))
      (pss_cons (ps_expr (pe_callD D_check_worths (hr.mono (by decide)) rfl pass_cx (pa_cons (hs:=st_Name) (pv 1) (pa_cons (hs:=st_Name) (pv 3) pa_nil))))
      (pss_cons (ps_fld (pv 0) (pv 1) rfl)
      (pss_cons (ps_fld (pv 0) (pv 2) rfl)
      (pss_one (ps_fld (pv 0) (pe_callTy call_tuple_of rfl T.b_tuple bt_tuple (pa_cons (hs:=st_Name) (pv 3) pa_nil)) rfl)))))))),?_⟩
    have hl:=hR.length
    have no1:numsOk n xs.length=false→netYes kd n rs=false:=fun z=>by rw [netYes,← hl,z]; rfl
    refine ⟨_,rfl,_,rfl,n,rl,xs,rfl,hx,hn,fun y1=>?_,fun z=>e1 (no1 z) _ (Same.refl H)⟩
    have yy:=y1
    simp only [numsOk,Bool.and_eq_true,decide_eq_true_eq] at yy
    refine ⟨_,rfl,_,rfl,n,rl,xs,rs,rfl,hx,hR,by omega,fun y2 H1 s1=>?_,fun z H1 s1=>e1 (by rw [netYes,z]; simp) _ s1⟩
    refine ⟨_,rfl,_,rfl,_,rfl,kd,kp,n,rl,xs,rs,rfl,⟨kdx,s1 _ _ hk⟩,hK,by omega,by omega,s1 _ _ hx,hR.same s1,by omega,fun c=>sm c (by omega),fun y3 H2 s2=>?_,fun z H2 s2=>e1 (by rw [netYes,z]; simp) _ (s1.trans s2)⟩
    have yes:netYes kd n rs=true:=by rw [netYes,← hl,y1,y2,y3]; rfl
    have s12:=s1.trans s2
    refine ⟨_,rfl,_,rfl,kd,kp,rl,xs,rs,rfl,⟨kdx,s12 _ _ hk⟩,hK,ok,s12 _ _ hx,hR.same s12,by omega,fun y4 H3 s3=>?_,fun z H3 s3=>e2 yes z _ (s12.trans s3)⟩
    have s13:=s12.trans s3
    refine ⟨_,rfl,_,rfl,self,_,dx,[],rfl,s13 _ _ hself,T.cl_Net,T.na_Net_own_kind,(by show 0 < 1000; decide),?_⟩
    refine ⟨_,rfl,_,rfl,self,_,dx,_,rfl,upd_same,T.cl_Net,T.na_Net_how_many,(by show 1 < 1000; decide),?_⟩
    have nr:rl≠self:=ne_of hx hself (by intro z; cases z)
    refine ⟨_,rfl,rl,xs,rfl,.inl ⟨SqL.of (by rw [upd_ne nr,upd_ne nr]; exact s13 _ _ hx),fun tp ntp=>?_⟩⟩
    have nt:tp≠self:=fun z=>by rw [z,upd_same] at ntp; cases ntp
    refine ⟨_,rfl,self,_,dx,_,rfl,by rw [upd_ne (Ne.symm nt)]; exact upd_same,T.cl_Net,T.na_Net_own_roads,(by show 2 < 1000; decide),?_⟩
    refine q yes y4 tp _ (fun b o nb hb=>?_) upd_same ?_
    · have:upd (upd H3 self (HO.ins a.cNet dx (putF (Str.ofString "own_kind") (V.ref kp) []))) self (HO.ins a.cNet dx (putF (Str.ofString "how_many") (V.int n) (putF (Str.ofString "own_kind") (V.ref kp) []))) b=some o:=by
        rw [upd_ne nb,upd_ne nb]; exact s13 _ _ hb
      rw [upd_ne nb,upd_ne (ne_of_none this ntp)]
      exact this
    · rw [upd_ne nt]; exact upd_same
def spNKind (a:Adr):Sp:=fun vs H Q _=>∃ (p kp tp:Addr) (kd:Kd) (n:Nat) (xs:List V) (rs:List Road),vs=[.ref p]∧NetIs a H p kd n kp tp xs rs∧Q (.ref kp) H
def spNPlaces (a:Adr):Sp:=fun vs H Q _=>∃ (p kp tp:Addr) (kd:Kd) (n:Nat) (xs:List V) (rs:List Road),vs=[.ref p]∧NetIs a H p kd n kp tp xs rs∧Q (.int (n:Int)) H
def spNRoads (a:Adr):Sp:=fun vs H Q _=>∃ (p kp tp:Addr) (kd:Kd) (n:Nat) (xs:List V) (rs:List Road),vs=[.ref p]∧NetIs a H p kd n kp tp xs rs∧∀ l,H l=none→Q (.ref l) (upd H l (.lst xs))
theorem sc_Net_kind:FnScope ["self"] ["self"] (defScope (inClass (top 36) 1)):=⟨rfl,rfl,rfl,by decide +kernel,rfl,by decide +kernel,by decide +kernel⟩
theorem sc_Net_places:FnScope ["self"] ["self"] (defScope (inClass (top 36) 2)):=⟨rfl,rfl,rfl,by decide +kernel,rfl,by decide +kernel,by decide +kernel⟩
theorem sc_Net_roads:FnScope ["self"] ["self"] (defScope (inClass (top 36) 3)):=⟨rfl,rfl,rfl,by decide +kernel,rfl,by decide +kernel,by decide +kernel⟩
theorem n_of {m qual:Str} {st:Stmt} {ps:List Str} {k:Nat} {sp:Sp} (T:Tx K mg a) (F:MthAt K a.cNet m qual st)
    (hb:∀ (kV doc pm:Value) (an:Option Addr) (cdv ct:Value) (us:List Value),us.length=ps.length→bindArgs (PySem.W.fnOf m qual (defArgs st) (defBody st) (defScope st) .none kV doc pm an cdv ct) ⟨us,[]⟩=pure (ps.zip us))
    (h:∀ f fd,Fun K m qual st f fd→FnOk P w K mg base (CXE P w) k f fd ps sp):Mth P w K mg base k (fun _:Unit=>a.cNet) m ps (fun _=>sp):=by
  refine ⟨fun _=>?_⟩
  obtain ⟨f,fd,hf,hi,F⟩:=F.ex
  exact ⟨T.cl_Net,f,fd,⟨hf,hi,F.kp⟩,F.binds hb,h f fd F⟩
theorem v_kind (T:Tx K mg a) (F:MthAt K a.cNet "kind" "Net.kind" (inClass (top 36) 1)):Mth P w K mg base 1 (fun _:Unit=>a.cNet) "kind" ["self"] (fun _=>spNKind a) :=
  n_of T F (fun _ _ _ _ _ _ us hl=>match us,hl with | [_],_=>rfl) fun f fd F=>F.okN sc_Net_kind (fun vs H Q E h=>by obtain ⟨_,_,_,_,_,_,_,rfl,_⟩:=h; rfl) (fun cdv A outer s H vs Q E hr h=>by
    obtain ⟨p,kp,tp,kd,n,xs,rs,rfl,⟨⟨dx,hp⟩,_,_,_⟩,q⟩:=h
    exact ⟨_,(pss_one (ps_ret (pe_fld (pv 0) rfl))),⟨_,rfl,p,_,dx,_,_,rfl,hp,T.cl_Net,T.na_Net_own_kind,rfl,q⟩⟩)
theorem v_places (T:Tx K mg a) (F:MthAt K a.cNet "places" "Net.places" (inClass (top 36) 2)):Mth P w K mg base 1 (fun _:Unit=>a.cNet) "places" ["self"] (fun _=>spNPlaces a) :=
  n_of T F (fun _ _ _ _ _ _ us hl=>match us,hl with | [_],_=>rfl) fun f fd F=>F.okN sc_Net_places (fun vs H Q E h=>by obtain ⟨_,_,_,_,_,_,_,rfl,_⟩:=h; rfl) (fun cdv A outer s H vs Q E hr h=>by
    obtain ⟨p,kp,tp,kd,n,xs,rs,rfl,⟨⟨dx,hp⟩,_,_,_⟩,q⟩:=h
    exact ⟨_,(pss_one (ps_ret (pe_fld (pv 0) rfl))),⟨_,rfl,p,_,dx,_,_,rfl,hp,T.cl_Net,T.na_Net_how_many,rfl,q⟩⟩)
theorem v_roads (T:Tx K mg a) (F:MthAt K a.cNet "roads" "Net.roads" (inClass (top 36) 3)):Mth P w K mg base 1 (fun _:Unit=>a.cNet) "roads" ["self"] (fun _=>spNRoads a) :=
  n_of T F (fun _ _ _ _ _ _ us hl=>match us,hl with | [_],_=>rfl) fun f fd F=>F.okN sc_Net_roads (fun vs H Q E h=>by obtain ⟨_,_,_,_,_,_,_,rfl,_⟩:=h; rfl) (fun cdv A outer s H vs Q E hr h=>by
    obtain ⟨p,kp,tp,kd,n,xs,rs,rfl,⟨⟨dx,hp⟩,_,ht,_⟩,q⟩:=h
    exact ⟨_,(pss_one (ps_ret (pe_callTy call_list_of rfl T.b_list bt_list (pa_cons (hs:=st_Attribute) (pe_fld (pv 0) rfl) pa_nil)))),⟨_,rfl,p,_,dx,_,_,rfl,hp,T.cl_Net,T.na_Net_own_roads,rfl,tp,xs,rfl,.inr (SqT.of ht),q⟩⟩)
section
variable {H : Hp} {kd : Kd} {kp l : Addr} {n : Int} {xs : List V} {rs : List Road} {Q : Addr → Hp → Prop} {E : XK}
theorem mk_any (hk:KindAt a H kp kd) (hK:HasK kd) (ok:KdOk kd) (hl:H l=some (.lst xs)) (hR:IsRoads H xs rs) (hn:n.natAbs.log2 < 1920) (sm:kd=.chances→xs.length≤64→∀ r∈rs,Sm 4000 r.w)
    (q:netYes kd n rs=true→worthsOk kd rs=true→∀ x tp H',Same H H'→H x=none→NetIs a H' x kd n.toNat kp tp xs rs→Q x H') (e1:netYes kd n rs=false→∀ H',Same H H'→E (.ref a.cNoNet) none H') (e2:netYes kd n rs=true→worthsOk kd rs=false→∀ H',Same H H'→E (.ref a.cNoWorth) none H') :
    ∀ x dx,H x=none→H dx=none→dx≠x→spNet a [.ref x,.ref kp,.int n,.ref l] (upd (upd H dx (.own x)) x (.ins a.cNet dx [])) (fun v H2=>v=.non∧Q x H2) E:=by
  intro x dx nx ndx nex
  have s2:Same H (upd (upd H dx (.own x)) x (.ins a.cNet dx [])):=same_two nx ndx
  obtain ⟨kdx,hkp⟩:=hk
  refine ⟨x,dx,kd,kp,n,l,xs,rs,rfl,upd_same,⟨kdx,s2 _ _ hkp⟩,hK,ok,ne_of_none hkp nx,hn,s2 _ _ hl,hR.same s2,sm,fun y1 y2 tp H' sb hs ht=>⟨rfl,?_⟩,fun z H' s'=>e1 z H' (s2.trans s'),fun y z H' s'=>e2 y z H' (s2.trans s')⟩
  have s3:Same H H':=fun p o e=>sb p o (ne_of_none e nx) (s2 p o e)
  have n0:1≤n:=by
    simp only [netYes,numsOk,Bool.and_eq_true,decide_eq_true_eq] at y1
    exact y1.1.1.1
  refine q y1 y2 x tp H' s3 nx ⟨⟨dx,?_⟩,⟨kdx,s3 _ _ hkp⟩,ht,hR.same s3⟩
  rw [show ((n.toNat:Nat):Int)=n by omega]
  exact hs
end
end
end K13
namespace K13
open PySem L2 Ws
seal PE PT PW PA PC PS PSs PG PGs PI PO
section
variable {P : Program} {w : World} {K : PySem.W.Frag} {mg : Str → Option Value} {base : Heap} {a : Adr}
theorem isNo {i j:Int} (h:i≠j) {A B:Prop} (b:B):if decide (V.int i=V.int j)=true then A else B:=iteEqI (fun z=>absurd z h) (fun _=>b)
theorem isYes {i:Int} {A B:Prop} (b:A):if decide (V.int i=V.int i)=true then A else B:=iteEqI (fun _=>b) (fun z=>absurd rfl z)
def spLTog:Sp:=fun vs H Q _=>∃ (kd:Kd) (ok:KdOk kd) (v1 v2:V) (x y:Car kd),vs=[.int (kno kd),v1,v2]∧IsW H v1 (enc kd x)∧IsW H v2 (enc kd y)∧Sm Big (enc kd x)∧Sm Big (enc kd y) ∧
  ∀ v H',Same H H'→IsW H' v (enc kd ((ks kd ok).add x y))→Q v H'
theorem sc_law_tog:FnScope ["which","one","other"] ["which","one","other"] (defScope (top 49)):=⟨rfl,rfl,rfl,by decide +kernel,rfl,by decide +kernel,by decide +kernel⟩
theorem d_tog (T:Tx K mg a) (D_law_share:Dn P w K mg base 33 "_law_share" ["top","below"] spShare) (F:DefAt K mg "_law_tog" (top 49)):Dn P w K mg base 34 "_law_tog" ["which","one","other"] spLTog:=by
  obtain ⟨f,fd,hm,F⟩:=F.ex
  refine ⟨f,fd,hm,F.kp,F.binds fun _ _ _ _ _ _ us hl=>match us,hl with | [_,_,_],_=>rfl,?_⟩
  refine F.okN sc_law_tog (fun vs H Q E h=>?_) (fun cdv A outer s H vs Q E hr h=>?_)
  · obtain ⟨_,_,_,_,_,_,rfl,_⟩:=h
    rfl
  · obtain ⟨kd,ok,v1,v2,x,y,rfl,h1,h2,s1,s2,q⟩:=h
    refine ⟨_,(pss_cons (ps_if (PW.pt (pw_or (pt_cmpR op_eq (pv 0) pe_int (nomark _)) (pw_or1 (pt_cmpR op_eq (pv 0) pe_int (nomark _))))) (pss_cons (ps_if (PW.pt (pw_or (pt_cmp (pc_isN (pv 1))) (pw_or1 (pt_cmp (pc_isN (pv 2)))))) (pss_one (ps_ret (pe_ifExp (pt_cmp (pc_isN (pv 1))) (pv 2) (pv 1)))) pss_nil)
      (pss_one (ps_ret (pe_ifExp (pt_cmpR op_eq (pv 0) pe_int (nomark _)) (pe_callB (call_min2 rfl) rfl T.b_min bt_min (pa_cons (hs:=st_Name) (pv 1) (pa_cons (hs:=st_Name) (pv 2) pa_nil))) (pe_op op_and (pv 1) (pv 2)))))) pss_nil)
      (pss_cons (ps_if (pt_cmpR op_eq (pv 0) pe_int (nomark _)) (pss_one (ps_ret (pe_callB (call_max2 rfl) rfl T.b_max bt_max (pa_cons (hs:=st_Name) (pv 1) (pa_cons (hs:=st_Name) (pv 2) pa_nil))))) pss_nil)
      (pss_cons (ps_if (pt_cmpR op_eq (pv 0) pe_int (nomark _)) (pss_one (ps_ret (pe_ifExp (pt_cmpR op_lt (pe_callB (call_min2 rfl) rfl T.b_min bt_min (pa_cons (hs:=st_Name) (pv 1) (pa_cons (hs:=st_Name) (pv 2) pa_nil))) pe_int (nomark _)) (pe_un un_neg pe_int) (pe_op op_add (pv 1) (pv 2))))) pss_nil)
      (pss_cons (ps_if (pt_cmpR op_eq (pv 0) pe_int (nomark _)) (pss_one (ps_ret (pe_ifExp (pt_cmpR op_ge (pe_op op_mulX (pe_ix ix_tup (pv 1) pe_int (fun _ _=>rfl)) (pe_ix ix_tup (pv 2) pe_int (fun _ _=>rfl))) (pe_op op_mulX (pe_ix ix_tup (pv 2) pe_int (fun _ _=>rfl)) (pe_ix ix_tup (pv 1) pe_int (fun _ _=>rfl))) (nomark _)) (pv 1) (pv 2)))) pss_nil)
      (pss_cons (ps_if (pt_cmpR op_eq (pv 0) pe_int (nomark _)) (pss_one (ps_ret (pe_callD D_law_share (hr.mono (by decide)) rfl passE0 (pa_cons (hs:=st_BinOp) (pe_op op_add (pe_op op_mulX (pe_ix ix_tup (pv 1) pe_int (fun _ _=>rfl)) (pe_ix ix_tup (pv 2) pe_int (fun _ _=>rfl))) (pe_op op_mulX (pe_ix ix_tup (pv 2) pe_int (fun _ _=>rfl)) (pe_ix ix_tup (pv 1) pe_int (fun _ _=>rfl)))) (pa_cons (hs:=st_BinOp) (pe_op op_mulX (pe_ix ix_tup (pv 1) pe_int (fun _ _=>rfl)) (pe_ix ix_tup (pv 2) pe_int (fun _ _=>rfl))) pa_nil))))) pss_nil)
      (pss_one (ps_ret (pe_op op_or (pv 1) (pv 2))))))))),?_⟩
    cases kd with
    | fewest =>
      refine t_or_eq rfl (fun _=>?_) (fun z=>absurd (.inl rfl) z)
      rcases x with _ | i
      · obtain rfl:=isW_non h1
        exact ⟨_,rfl,_,rfl,iteT (iteT ⟨_,rfl,_,rfl,iteT ⟨_,rfl,q _ _ (Same.refl H) (by cases y <;> exact h2)⟩⟩)⟩
      · obtain rfl:=isW_int h1
        refine ⟨_,rfl,_,rfl,iteF ?_⟩
        rcases y with _ | j
        · obtain rfl:=isW_non h2
          exact ⟨_,rfl,_,rfl,iteT ⟨_,rfl,_,rfl,iteF ⟨_,rfl,q _ _ (Same.refl H) rfl⟩⟩⟩
        · obtain rfl:=isW_int h2
          exact ⟨_,rfl,_,rfl,iteF ⟨_,rfl,rfl,_,rfl,isYes ⟨_,rfl,_,rfl,_,_,rfl,q _ _ (Same.refl H) (min_if i j)⟩⟩⟩
    | widest =>
      obtain rfl:=isW_int h1
      obtain rfl:=isW_int h2
      refine t_or_eq rfl (fun z=>absurd z (by decide)) (fun _=>?_)
      exact ⟨_,rfl,rfl,_,rfl,isYes ⟨_,rfl,_,rfl,_,_,rfl,q _ _ (Same.refl H) (max_if x.1 y.1)⟩⟩
    | counted =>
      refine t_or_eq rfl (fun z=>absurd z (by decide)) (fun _=>?_)
      refine ⟨_,rfl,rfl,_,rfl,isNo (by decide) ?_⟩
      refine ⟨_,rfl,rfl,_,rfl,isYes ?_⟩
      rcases x with _ | i
      · obtain rfl:=isW_int h1
        rcases y with _ | j
        · obtain rfl:=isW_int h2
          exact ⟨_,rfl,_,rfl,_,_,rfl,_,_,rfl,rfl,_,rfl,iteD (fun _=>⟨_,rfl,q _ _ (Same.refl H) rfl⟩) (fun z=>absurd (by decide) z)⟩
        · obtain rfl:=isW_int h2
          exact ⟨_,rfl,_,rfl,_,_,rfl,_,_,rfl,rfl,_,rfl,iteD (fun _=>⟨_,rfl,q _ _ (Same.refl H) rfl⟩) (fun z=>absurd (by split <;> omega) z)⟩
      · obtain rfl:=isW_int h1
        rcases y with _ | j
        · obtain rfl:=isW_int h2
          exact ⟨_,rfl,_,rfl,_,_,rfl,_,_,rfl,rfl,_,rfl,iteD (fun _=>⟨_,rfl,q _ _ (Same.refl H) rfl⟩) (fun z=>absurd (by split <;> omega) z)⟩
        · obtain rfl:=isW_int h2
          exact ⟨_,rfl,_,rfl,_,_,rfl,_,_,rfl,rfl,_,rfl,iteD (fun z=>absurd z (by split <;> omega)) (fun _=>⟨_,rfl,_,rfl,_,_,rfl,rfl,q _ _ (Same.refl H) (by show (i:Int) + j=((i + j:Nat):Int); omega)⟩)⟩
    | likeliest =>
      obtain ⟨r1,rfl,e1⟩:=isW_pair h1
      obtain ⟨r2,rfl,e2⟩:=isW_pair h2
      refine t_or_eq rfl (fun z=>absurd z (by decide)) (fun _=>?_)
      refine ⟨_,rfl,rfl,_,rfl,isNo (by decide) ?_⟩
      refine ⟨_,rfl,rfl,_,rfl,isNo (by decide) ?_⟩
      refine ⟨_,rfl,rfl,_,rfl,isYes ?_⟩
      refine ⟨_,rfl,r1,_,_,_,rfl,rfl,SqT.of e1,rfl,_,rfl,r2,_,_,_,rfl,rfl,SqT.of e2,rfl,_,_,rfl,rfl,big_mul s1.1 s2.2,?_⟩
      refine ⟨_,rfl,r2,_,_,_,rfl,rfl,SqT.of e2,rfl,_,rfl,r1,_,_,_,rfl,rfl,SqT.of e1,rfl,_,_,rfl,rfl,big_mul s2.1 s1.2,_,_,rfl,rfl,_,rfl,?_⟩
      refine iteD (fun c=>?_) (fun c=>?_)
      · refine ⟨_,rfl,q _ _ (Same.refl H) ?_⟩
        show IsW H _ (ofR (rmax x.1 y.1))
        rw [show rmax x.1 y.1=x.1 from if_neg (fun z=>by have:=(lt_cross x.1 y.1).mpr z; omega)]
        exact h1
      · refine ⟨_,rfl,q _ _ (Same.refl H) ?_⟩
        show IsW H _ (ofR (rmax x.1 y.1))
        rw [show rmax x.1 y.1=y.1 from if_pos ((lt_cross x.1 y.1).mp (by omega))]
        exact h2
    | chances =>
      obtain ⟨r1,rfl,e1⟩:=isW_pair h1
      obtain ⟨r2,rfl,e2⟩:=isW_pair h2
      refine t_or_eq rfl (fun z=>absurd z (by decide)) (fun _=>?_)
      refine ⟨_,rfl,rfl,_,rfl,isNo (by decide) ?_⟩
      refine ⟨_,rfl,rfl,_,rfl,isNo (by decide) ?_⟩
      refine ⟨_,rfl,rfl,_,rfl,isNo (by decide) ?_⟩
      refine ⟨_,rfl,rfl,_,rfl,isYes ?_⟩
      refine ⟨_,rfl,r1,_,_,_,rfl,rfl,SqT.of e1,rfl,_,rfl,r2,_,_,_,rfl,rfl,SqT.of e2,rfl,_,_,rfl,rfl,big_mul s1.1 s2.2,?_⟩
      refine ⟨_,rfl,r2,_,_,_,rfl,rfl,SqT.of e2,rfl,_,rfl,r1,_,_,_,rfl,rfl,SqT.of e1,rfl,_,_,rfl,rfl,big_mul s2.1 s1.2,_,_,rfl,rfl,?_⟩
      refine ⟨_,rfl,r1,_,_,_,rfl,rfl,SqT.of e1,rfl,_,rfl,r2,_,_,_,rfl,rfl,SqT.of e2,rfl,_,_,rfl,rfl,big_mul s1.2 s2.2,?_⟩
      have n1:=Rat.num_nonneg.mpr x.2
      have n2:=Rat.num_nonneg.mpr y.2
      refine ⟨_,_,rfl,Int.add_nonneg (Int.mul_nonneg n1 (Int.le_of_lt (den_pos _))) (Int.mul_nonneg n2 (Int.le_of_lt (den_pos _))),Int.mul_pos (den_pos _) (den_pos _),fun v H' s' hv=>q v H' s' ?_⟩
      rw [add_shareW] at hv
      exact hv
    | musts =>
      refine t_or_eq rfl (fun _=>?_) (fun z=>absurd (.inr rfl) z)
      rcases x with _ | i
      · obtain rfl:=isW_non h1
        exact ⟨_,rfl,_,rfl,iteT (iteT ⟨_,rfl,_,rfl,iteT ⟨_,rfl,q _ _ (Same.refl H) (by cases y <;> exact h2)⟩⟩)⟩
      · obtain rfl:=isW_int h1
        refine ⟨_,rfl,_,rfl,iteF ?_⟩
        rcases y with _ | j
        · obtain rfl:=isW_non h2
          exact ⟨_,rfl,_,rfl,iteT ⟨_,rfl,_,rfl,iteF ⟨_,rfl,q _ _ (Same.refl H) rfl⟩⟩⟩
        · obtain rfl:=isW_int h2
          exact ⟨_,rfl,_,rfl,iteF ⟨_,rfl,rfl,_,rfl,isNo (by decide) ⟨_,rfl,_,rfl,_,_,rfl,rfl,q _ _ (Same.refl H) (bitAnd_nat i j)⟩⟩⟩
    | rests m =>
      obtain rfl:=isW_int h1
      obtain rfl:=isW_int h2
      rw [show kno (Kd.rests m)=6 from rfl]
      refine t_or_eq rfl (fun z=>absurd z (by decide)) (fun _=>?_)
      refine ⟨_,rfl,rfl,_,rfl,isNo (by decide) ?_⟩
      refine ⟨_,rfl,rfl,_,rfl,isNo (by decide) ?_⟩
      refine ⟨_,rfl,rfl,_,rfl,isNo (by decide) ?_⟩
      refine ⟨_,rfl,rfl,_,rfl,isNo (by decide) ?_⟩
      exact ⟨_,rfl,_,rfl,_,_,rfl,rfl,q _ _ (Same.refl H) (bitOr_nat x.1 y.1)⟩
def MIs (kd:Kd) (m:Int):Prop:=∀ n,kd=.rests n→m=n
def spLBeh:Sp:=fun vs H Q _=>∃ (kd:Kd) (ok:KdOk kd) (m:Int) (v1 v2:V) (x y:Car kd),vs=[.int (kno kd),.int m,v1,v2]∧MIs kd m∧IsW H v1 (enc kd x)∧IsW H v2 (enc kd y)∧Sm Big (enc kd x)∧Sm Big (enc kd y) ∧
  ∀ v H',Same H H'→IsW H' v (enc kd ((ks kd ok).mul x y))→Q v H'
theorem sc_law_beh:FnScope ["which","m","one","other","found","i","turned"] ["which","m","one","other"] (defScope (top 50)):=⟨rfl,rfl,rfl,by decide +kernel,rfl,by decide +kernel,by decide +kernel⟩
theorem d_beh (T:Tx K mg a) (D_law_share:Dn P w K mg base 33 "_law_share" ["top","below"] spShare) (F:DefAt K mg "_law_beh" (top 50)):Dn P w K mg base 34 "_law_beh" ["which","m","one","other"] spLBeh:=by
  obtain ⟨f,fd,hm,F⟩:=F.ex
  refine ⟨f,fd,hm,F.kp,F.binds fun _ _ _ _ _ _ us hl=>match us,hl with | [_,_,_,_],_=>rfl,?_⟩
  refine F.okN sc_law_beh (fun vs H Q E h=>?_) (fun cdv A outer s H vs Q E hr h=>?_)
  · obtain ⟨_,_,_,_,_,_,_,rfl,_⟩:=h
    rfl
  · obtain ⟨kd,ok,m,v1,v2,x,y,rfl,hm',h1,h2,s1,s2,q⟩:=h
    refine ⟨_,(pss_cons (ps_if (PW.pt (pw_or (pt_cmpR op_eq (pv 0) pe_int (nomark _)) (pw_or1 (pt_cmpR op_eq (pv 0) pe_int (nomark _))))) (pss_cons (ps_if (PW.pt (pw_or (pt_cmp (pc_isN (pv 2))) (pw_or1 (pt_cmp (pc_isN (pv 3)))))) (pss_one (ps_ret pe_non)) pss_nil)
      (pss_one (ps_ret (pe_ifExp (pt_cmpR op_eq (pv 0) pe_int (nomark _)) (pe_op op_add (pv 2) (pv 3)) (pe_op op_or (pv 2) (pv 3)))))) pss_nil)
      (pss_cons (ps_if (pt_cmpR op_eq (pv 0) pe_int (nomark _)) (pss_one (ps_ret (pe_callB (call_min2 rfl) rfl T.b_min bt_min (pa_cons (hs:=st_Name) (pv 2) (pa_cons (hs:=st_Name) (pv 3) pa_nil))))) pss_nil)
      (pss_cons (ps_if (pt_cmpR op_eq (pv 0) pe_int (nomark _)) (pss_cons (ps_if (PW.pt (pw_or (pt_cmpR op_eq (pv 2) pe_int (nomark _)) (pw_or1 (pt_cmpR op_eq (pv 3) pe_int (nomark _))))) (pss_one (ps_ret pe_int)) pss_nil)
      (pss_one (ps_ret (pe_ifExp (pt_cmpR op_lt (pe_callB (call_min2 rfl) rfl T.b_min bt_min (pa_cons (hs:=st_Name) (pv 2) (pa_cons (hs:=st_Name) (pv 3) pa_nil))) pe_int (nomark _)) (pe_un un_neg pe_int) (pe_op op_mulX (pv 2) (pv 3)))))) pss_nil)
      (pss_cons (ps_if (PW.pt (pw_or (pt_cmpR op_eq (pv 0) pe_int (nomark _)) (pw_or1 (pt_cmpR op_eq (pv 0) pe_int (nomark _))))) (pss_one (ps_ret (pe_callD D_law_share (hr.mono (by decide)) rfl passE0 (pa_cons (hs:=st_BinOp) (pe_op op_mulX (pe_ix ix_tup (pv 2) pe_int (fun _ _=>rfl)) (pe_ix ix_tup (pv 3) pe_int (fun _ _=>rfl))) (pa_cons (hs:=st_BinOp) (pe_op op_mulX (pe_ix ix_tup (pv 2) pe_int (fun _ _=>rfl)) (pe_ix ix_tup (pv 3) pe_int (fun _ _=>rfl))) pa_nil))))) pss_nil)
      (pss_cons (ps_set (i:=4) sc_law_beh.nd rfl (Or.inl rfl) pe_int)
      (pss_cons (ps_for PassesOwn.never rfl (pi_range1 rfl T.b_range (pa_cons (hs:=st_Name) (pv 1) pa_nil)) (pg_name (i:=5) sc_law_beh.nd rfl (Or.inl rfl)) (pss_one (ps_if (pt_cmpR op_eq (pe_op op_and (pe_op op_shr (pv 2) (pv 5)) pe_int) pe_int (nomark _)) (pss_cons (ps_set (i:=6) sc_law_beh.nd rfl (Or.inl rfl) (pe_op op_shl (pv 3) (pv 5)))
      (pss_one (ps_set (i:=4) sc_law_beh.nd rfl (Or.inl rfl) (pe_op op_or (pe_op op_or (pv 4) (pe_op op_and (pv 6) (pe_op op_sub (pe_op op_shl pe_int (pv 1)) pe_int))) (pe_op op_shr (pv 6) (pv 1)))))) pss_nil)))
      (pss_one (ps_ret (pv 4))))))))),?_⟩
    cases kd with
    | fewest =>
      refine t_or_eq rfl (fun _=>?_) (fun z=>absurd (.inl rfl) z)
      rcases x with _ | i
      · obtain rfl:=isW_non h1
        exact ⟨_,rfl,_,rfl,iteT (iteT (q _ _ (Same.refl H) True.intro))⟩
      · obtain rfl:=isW_int h1
        refine ⟨_,rfl,_,rfl,iteF ?_⟩
        rcases y with _ | j
        · obtain rfl:=isW_non h2
          exact ⟨_,rfl,_,rfl,iteT (q _ _ (Same.refl H) True.intro)⟩
        · obtain rfl:=isW_int h2
          exact ⟨_,rfl,_,rfl,iteF ⟨_,rfl,rfl,_,rfl,isYes ⟨_,rfl,_,rfl,_,_,rfl,rfl,q _ _ (Same.refl H) (by show (i:Int) + j=((i + j:Nat):Int); omega)⟩⟩⟩
    | widest =>
      obtain rfl:=isW_int h1
      obtain rfl:=isW_int h2
      refine t_or_eq rfl (fun z=>absurd z (by decide)) (fun _=>?_)
      exact ⟨_,rfl,rfl,_,rfl,isYes ⟨_,rfl,_,rfl,_,_,rfl,q _ _ (Same.refl H) (min_if x.1 y.1)⟩⟩
    | counted =>
      refine t_or_eq rfl (fun z=>absurd z (by decide)) (fun _=>?_)
      refine ⟨_,rfl,rfl,_,rfl,isNo (by decide) ?_⟩
      refine ⟨_,rfl,rfl,_,rfl,isYes ?_⟩
      obtain ⟨i,rfl,e1,hx⟩:=counted_is h1
      obtain ⟨j,rfl,e2,hy⟩:=counted_is h2
      rw [e1] at s1
      rw [e2] at s2
      have fin:∀ k:Int,enc .counted (oMul x y)=.int k→Q (.int k) H:=fun k e=>q _ _ (Same.refl H) (by show IsW H _ (enc .counted (oMul x y)); rw [e]; exact rfl)
      refine ⟨_,rfl,rfl,_,rfl,iteEqI (fun z=>?_) (fun zi=>?_)⟩
      · exact iteT (fin 0 (counted_zero hx z))
      refine ⟨_,rfl,rfl,_,rfl,iteEqI (fun z=>?_) (fun zj=>?_)⟩
      · exact fin 0 ((congrArg (enc .counted) (oMul_comm x y)).trans (counted_zero hy z))
      refine ⟨_,rfl,_,rfl,_,_,rfl,_,_,rfl,rfl,_,rfl,iteD (fun c=>?_) (fun c=>?_)⟩
      · refine ⟨_,rfl,fin (-1) (counted_endless hx hy zi zj ?_)⟩
        rcases hx with ⟨e,_⟩ | ⟨n,e,_⟩
        · exact .inl e
        · rcases hy with ⟨e',_⟩ | ⟨n',e',_⟩
          · exact .inr e'
          · exfalso; split at c <;> omega
      · have z1:i≠-1:=fun z=>c (by split <;> omega)
        have z2:j≠-1:=fun z=>c (by rcases hx with ⟨e,_⟩ | ⟨n,e,_⟩ <;> split <;> omega)
        exact ⟨_,rfl,_,rfl,_,_,rfl,rfl,big_mul s1 s2,fin _ (counted_prod hx hy z1 z2)⟩
    | likeliest =>
      obtain ⟨r1,rfl,e1⟩:=isW_pair h1
      obtain ⟨r2,rfl,e2⟩:=isW_pair h2
      refine t_or_eq rfl (fun z=>absurd z (by decide)) (fun _=>?_)
      refine ⟨_,rfl,rfl,_,rfl,isNo (by decide) ?_⟩
      refine ⟨_,rfl,rfl,_,rfl,isNo (by decide) ?_⟩
      refine t_or_eq rfl (fun _=>?_) (fun z=>absurd (.inl rfl) z)
      refine ⟨_,rfl,r1,_,_,_,rfl,rfl,SqT.of e1,rfl,_,rfl,r2,_,_,_,rfl,rfl,SqT.of e2,rfl,_,_,rfl,rfl,big_mul s1.1 s2.1,?_⟩
      refine ⟨_,rfl,r1,_,_,_,rfl,rfl,SqT.of e1,rfl,_,rfl,r2,_,_,_,rfl,rfl,SqT.of e2,rfl,_,_,rfl,rfl,big_mul s1.2 s2.2,?_⟩
      refine ⟨_,_,rfl,Int.mul_nonneg (Rat.num_nonneg.mpr x.2.1) (Rat.num_nonneg.mpr y.2.1),Int.mul_pos (den_pos _) (den_pos _),fun v H' s' hv=>q v H' s' ?_⟩
      rw [mul_shareW] at hv
      exact hv
    | chances =>
      obtain ⟨r1,rfl,e1⟩:=isW_pair h1
      obtain ⟨r2,rfl,e2⟩:=isW_pair h2
      refine t_or_eq rfl (fun z=>absurd z (by decide)) (fun _=>?_)
      refine ⟨_,rfl,rfl,_,rfl,isNo (by decide) ?_⟩
      refine ⟨_,rfl,rfl,_,rfl,isNo (by decide) ?_⟩
      refine t_or_eq rfl (fun _=>?_) (fun z=>absurd (.inr rfl) z)
      refine ⟨_,rfl,r1,_,_,_,rfl,rfl,SqT.of e1,rfl,_,rfl,r2,_,_,_,rfl,rfl,SqT.of e2,rfl,_,_,rfl,rfl,big_mul s1.1 s2.1,?_⟩
      refine ⟨_,rfl,r1,_,_,_,rfl,rfl,SqT.of e1,rfl,_,rfl,r2,_,_,_,rfl,rfl,SqT.of e2,rfl,_,_,rfl,rfl,big_mul s1.2 s2.2,?_⟩
      refine ⟨_,_,rfl,Int.mul_nonneg (Rat.num_nonneg.mpr x.2) (Rat.num_nonneg.mpr y.2),Int.mul_pos (den_pos _) (den_pos _),fun v H' s' hv=>q v H' s' ?_⟩
      rw [mul_shareW] at hv
      exact hv
    | musts =>
      refine t_or_eq rfl (fun _=>?_) (fun z=>absurd (.inr rfl) z)
      rcases x with _ | i
      · obtain rfl:=isW_non h1
        exact ⟨_,rfl,_,rfl,iteT (iteT (q _ _ (Same.refl H) True.intro))⟩
      · obtain rfl:=isW_int h1
        refine ⟨_,rfl,_,rfl,iteF ?_⟩
        rcases y with _ | j
        · obtain rfl:=isW_non h2
          exact ⟨_,rfl,_,rfl,iteT (q _ _ (Same.refl H) True.intro)⟩
        · obtain rfl:=isW_int h2
          exact ⟨_,rfl,_,rfl,iteF ⟨_,rfl,rfl,_,rfl,isNo (by decide) ⟨_,rfl,_,rfl,_,_,rfl,rfl,q _ _ (Same.refl H) (bitOr_nat i j)⟩⟩⟩
    | rests n =>
      obtain rfl:=isW_int h1
      obtain rfl:=isW_int h2
      obtain rfl:m=n:=hm' n rfl
      have o1:1≤n:=ok.1
      have o2:n≤12:=ok.2
      rw [show kno (Kd.rests n)=6 from rfl]
      refine t_or_eq rfl (fun z=>absurd z (by decide)) (fun _=>?_)
      refine ⟨_,rfl,rfl,_,rfl,isNo (by decide) ?_⟩
      refine ⟨_,rfl,rfl,_,rfl,isNo (by decide) ?_⟩
      refine t_or_eq rfl (fun z=>absurd z (by decide)) (fun _=>?_)
      refine ⟨_,rfl,(n:Int),rfl,by omega,by omega,?_⟩
      refine for_range (n:=(n:Int).toNat) (fun i σ H'=>H'=H∧i≤n∧∃ o1 o2,σ=[some (.int 6),some (.int n),some (.int x.1),some (.int y.1),some (.int (behTo n x.1 y.1 i:Nat)),o1,o2]) ⟨rfl,by omega,none,none,rfl⟩ ?_ ?_
      · rintro i σ H' hi ⟨rfl,_,o1',o2',rfl⟩
        have hi':i < n:=by omega
        rw [Int.zero_add]
        refine ⟨_,rfl,_,rfl,_,_,rfl,rfl,by omega,_,_,rfl,rfl,rfl,_,rfl,?_⟩
        have e:=behTo_succ n x.1 y.1 i
        refine iteEqI (fun z=>?_) (fun z=>?_)
        · rw [shr_nat,bit_one] at z
          have c:x.1.testBit i=true:=by
            cases c:x.1.testBit i with
            | true=>rfl
            | false=>rw [c] at z; exact absurd z (by decide)
          rw [if_pos c] at e
          refine ⟨_,rfl,_,rfl,_,_,rfl,rfl,cpow_nat (pow12 o2 y.2) (by omega),?_⟩
          refine ⟨_,rfl,_,rfl,_,rfl,_,_,rfl,rfl,cpow_one o2,_,_,rfl,rfl,_,_,rfl,rfl,_,_,rfl,rfl,_,rfl,_,rfl,_,_,rfl,rfl,Int.natCast_nonneg n,_,_,rfl,rfl,?_⟩
          refine ⟨rfl,by omega,some (V.int (i:Int)),some (V.int ((y.1 <<< i:Nat):Int)),?_⟩
          dsimp only
          rw [mask_nat,shl_nat,bitAnd_nat,shr_nat,bitOr_nat,bitOr_nat,Nat.or_assoc,e]
          rfl
        · rw [shr_nat,bit_one] at z
          have c:¬ x.1.testBit i=true:=fun c=>by rw [if_pos c] at z; exact z rfl
          rw [if_neg c] at e
          exact ⟨rfl,by omega,_,_,by rw [e]; rfl⟩
      · rintro σ H' ⟨rfl,_,o1',o2',rfl⟩
        exact ⟨_,rfl,q _ _ (Same.refl H') (by rw [Int.toNat_natCast]; rfl)⟩
end
end K13
namespace K13
open PySem L2 Ws
seal PE PT PW PA PC PS PSs PG PGs PI PO
section
variable {P : Program} {w : World} {K : PySem.W.Frag} {mg : Str → Option Value} {base : Heap} {a : Adr}
def spWhole:Sp:=fun vs H Q _=>∃ i:Int,vs=[.int i]∧Q (.bl true) H
theorem sc_law_whole:FnScope ["found"] ["found"] (defScope (top 44)):=⟨rfl,rfl,rfl,by decide +kernel,rfl,by decide +kernel,by decide +kernel⟩
theorem kit_iB {K:PySem.W.Frag}:PySem.W.kitOne K (.type "int") (.type "bool")=some false:=by rfl
theorem d_whole (T:Tx K mg a) (F:DefAt K mg "_law_whole" (top 44)):Dn P w K mg base 1 "_law_whole" ["found"] spWhole:=by
  obtain ⟨f,fd,hm,F⟩:=F.ex
  refine ⟨f,fd,hm,F.kp,F.binds fun _ _ _ _ _ _ us hl=>match us,hl with | [_],_=>rfl,?_⟩
  refine F.okN sc_law_whole (fun vs H Q E h=>?_) (fun cdv A outer s H vs Q E hr h=>?_)
  · obtain ⟨_,rfl,_⟩:=h
    rfl
  · obtain ⟨i,rfl,q⟩:=h
    refine ⟨_,(pss_one (ps_ret (pe_and (pe_callB call_isinst rfl T.b_isinstance bt_isinstance (pa_cons (hs:=st_Name) (pv 0) (pa_cons (hs:=st_Name) (pe_bltn (v:=V.ty "int") rfl T.b_int bt_int rfl) pa_nil))) (pe_one (pe_not (pe_callB call_isinst rfl T.b_isinstance bt_isinstance (pa_cons (hs:=st_Name) (pv 0) (pa_cons (hs:=st_Name) (pe_bltn (v:=V.ty "bool") rfl T.b_bool bt_bool rfl) pa_nil)))))))),?_⟩
    exact ⟨_,rfl,_,_,_,_,_,rfl,rfl,.of (.int _),kit_iI,_,rfl,iteT ⟨_,rfl,_,_,_,_,_,rfl,rfl,.of (.int _),kit_iB,_,rfl,q⟩⟩
def spIs:Sp:=fun vs H Q _=>∃ (v1 v2:V) (w:Wd),vs=[v1,v2]∧IsW H v1 w∧IsW H v2 w∧Q (.bl true) H
theorem sc_law_is:FnScope ["found","due"] ["found","due"] (defScope (top 52)):=⟨rfl,rfl,rfl,by decide +kernel,rfl,by decide +kernel,by decide +kernel⟩
theorem d_is (T:Tx K mg a) (D_law_whole:Dn P w K mg base 1 "_law_whole" ["found"] spWhole) (F:DefAt K mg "_law_is" (top 52)):Dn P w K mg base 2 "_law_is" ["found","due"] spIs:=by
  obtain ⟨f,fd,hm,F⟩:=F.ex
  refine ⟨f,fd,hm,F.kp,F.binds fun _ _ _ _ _ _ us hl=>match us,hl with | [_,_],_=>rfl,?_⟩
  refine F.okN sc_law_is (fun vs H Q E h=>?_) (fun cdv A outer s H vs Q E hr h=>?_)
  · obtain ⟨_,_,_,rfl,_⟩:=h
    rfl
  · obtain ⟨v1,v2,w',rfl,h1,h2,q⟩:=h
    refine ⟨_,(pss_cons (ps_if (pt_cmp (pc_isN (pv 1))) (pss_one (ps_ret (pe_cmp (pc_isN (pv 0))))) pss_nil)
      (pss_cons (ps_if (pt_val (pe_callB call_isinst rfl T.b_isinstance bt_isinstance (pa_cons (hs:=st_Name) (pv 1) (pa_cons (hs:=st_Name) (pe_bltn (v:=V.ty "tuple") rfl T.b_tuple bt_tuple rfl) pa_nil))) (fun _=>rfl)) (pss_cons (ps_if (PW.pt (pw_or (pt_not (pt_val (pe_callB call_isinst rfl T.b_isinstance bt_isinstance (pa_cons (hs:=st_Name) (pv 0) (pa_cons (hs:=st_Name) (pe_bltn (v:=V.ty "tuple") rfl T.b_tuple bt_tuple rfl) pa_nil))) (fun _=>rfl))) (pw_or1 (pt_cmpR op_ne (pe_callB call_len_seq rfl T.b_len bt_len (pa_cons (hs:=st_Name) (pv 0) pa_nil)) pe_int (nomark _))))) (pss_one (ps_ret pe_bl)) pss_nil)
      (pss_one (ps_ret (pe_and (pe_callD D_law_whole (hr.mono (by decide)) rfl passE0 (pa_cons (hs:=st_Subscript) (pe_ix ix_tup (pv 0) pe_int (fun _ _=>rfl)) pa_nil)) (pe_and (pe_callD D_law_whole (hr.mono (by decide)) rfl passE0 (pa_cons (hs:=st_Subscript) (pe_ix ix_tup (pv 0) pe_int (fun _ _=>rfl)) pa_nil)) (pe_one (pe_cmpR (op_eq.or (op_eqT hr.units0)) (pv 0) (pv 1) (nomark _)))))))) pss_nil)
      (pss_one (ps_ret (pe_and (pe_callD D_law_whole (hr.mono (by decide)) rfl passE0 (pa_cons (hs:=st_Name) (pv 0) pa_nil)) (pe_one (pe_cmpR (op_eq.or (op_eqT hr.units0)) (pv 0) (pv 1) (nomark _)))))))),?_⟩
    cases w' with
    | non =>
      obtain rfl:=isW_non h1
      obtain rfl:=isW_non h2
      exact ⟨_,rfl,_,rfl,iteT ⟨_,rfl,q⟩⟩
    | int i =>
      obtain rfl:=isW_int h1
      obtain rfl:=isW_int h2
      refine ⟨_,rfl,_,rfl,iteF ⟨_,rfl,_,_,_,_,_,rfl,rfl,.of (.int _),kit_iT,_,rfl,iteF ?_⟩⟩
      refine ⟨_,rfl,i,rfl,_,rfl,iteT ⟨_,rfl,_,rfl,.inl ⟨rfl,?_⟩⟩⟩
      rw [decide_eq_true rfl]
      exact q
    | pair x y =>
      obtain ⟨r1,rfl,e1⟩:=isW_pair h1
      obtain ⟨r2,rfl,e2⟩:=isW_pair h2
      refine ⟨_,rfl,_,rfl,iteF ⟨_,rfl,_,_,_,_,_,rfl,rfl,.of (.tup e2),kit_tT,_,rfl,iteT ?_⟩⟩
      refine ⟨_,rfl,_,_,_,_,_,rfl,rfl,.of (.tup e1),kit_tT,_,rfl,iteF ?_⟩
      refine ⟨_,rfl,r1,_,rfl,.inr (SqT.of e1),rfl,_,rfl,iteF ?_⟩
      refine ⟨_,rfl,r1,_,_,_,rfl,rfl,SqT.of e1,rfl,x,rfl,_,rfl,iteT ?_⟩
      refine ⟨_,rfl,r1,_,_,_,rfl,rfl,SqT.of e1,rfl,y,rfl,_,rfl,iteT ?_⟩
      refine ⟨_,rfl,_,rfl,.inr ⟨r1,r2,_,_,rfl,rfl,SqT.of e1,SqT.of e2,rfl,rfl,?_⟩⟩
      rw [show eqVs [V.int x,V.int y] [V.int x,V.int y]=true by simp [eqVs,eqV]]
      exact q
end
end K13
namespace K13
open PySem L2 Ws
seal PE PT PW PA PC PS PSs PG PGs PI PO PJ PTs
theorem IsW.st {H H':Hp} (e:STup H H'):∀ {v:V} {w:Wd},IsW H v w→IsW H' v w
  | .non,.non,_=>True.intro
  | .int _,.int _,h=>h
  | .ref _,.pair _ _,h=>e _ _ h
theorem IsRoad.st {H H':Hp} (e:STup H H') {v:V} {r:Road}:IsRoad H v r→IsRoad H' v r:=fun ⟨p,wv,e1,e2,e3⟩=>⟨p,wv,e1,e _ _ e2,e3.st e⟩
theorem IsRoads.st {H H':Hp} (e:STup H H') {vs:List V} {rs:List Road} (h:IsRoads H vs rs):IsRoads H' vs rs:=Paired.mapP h fun _ _ q=>q.st e
theorem NetIs.up {a:Adr} {H:Hp} {p l:Addr} {kd:Kd} {n:Nat} {kp tp:Addr} {vs ys:List V} {rs:List Road} {o:HO} (h:H l=some (.lst ys)) (N:NetIs a H p kd n kp tp vs rs):NetIs a (upd H l o) p kd n kp tp vs rs :=
  ⟨let ⟨dx,q⟩:=N.ins; ⟨dx,by rw [upd_ne (ne_of q h (by intro z; cases z))]; exact q⟩,let ⟨dx,q⟩:=N.kind; ⟨dx,by rw [upd_ne (ne_of q h (by intro z; cases z))]; exact q⟩,stup_lst h _ _ N.tup,N.rds.st (stup_lst h)⟩
theorem rds_ref {H':Hp} {ys:List V} {ts:List Road} (h:IsRoads H' ys ts):∀ y∈ys,(∃ b,y=.ref b)∨flatV y=true:=by
  induction h with
  | nil=>intro y hy; cases hy
  | cons a _ ih =>
    intro y hy
    rcases List.mem_cons.mp hy with rfl | hy
    · obtain ⟨p,_,e,_⟩:=a; exact .inl ⟨p,e⟩
    · exact ih y hy
section
variable {P : Program} {w : World} {K : PySem.W.Frag} {mg : Str → Option Value} {base : Heap} {a : Adr}
theorem over_shareW {p q:Rat} (h:0 < q):shareW (p.num * q.den) (p.den * q.num)=ofR (p * q⁻¹):=by
  have hn:0 < q.num:=num_pos.mpr h
  rw [shareW_ofR (Int.mul_pos (den_pos p) hn),← Rat.divInt_mul_divInt,Rat.num_divInt_den]
  have:=Rat.inv_divInt q.num q.den
  rw [Rat.num_divInt_den] at this
  rw [this]
theorem shAll_take {p:Int} {rs:List Road} {i:Nat} {r:Road} (e:rs[i]?=some r):shAll (frm p (rs.take (i + 1)))=if r.f=p then shAll (frm p (rs.take i)) + toR r.w else shAll (frm p (rs.take i)):=by
  rw [frm_take e]
  split
  · unfold shAll
    rw [List.map_append,List.sum_append]
    simp [Rat.add_zero]
  · rfl
def spThin:Sp:=fun vs H Q _=>∃ (n:Int) (rl:Addr) (xs:List V) (rs:List Road),vs=[.int n,.ref rl]∧H rl=some (.lst xs)∧IsRoads H xs rs∧xs.length≤64∧(∀ r∈rs,isWorth .chances r.w=true∧Sm 110 r.w) ∧
  ∀ l ys H',Same H H'→H l=none→H' l=some (.lst ys)→IsRoads H' ys (thin rs)→Q (.ref l) H'
theorem sc_law_thinned:FnScope ["many","roads","found","road","whole","other","worth"] ["many","roads"] (defScope (top 53)):=⟨rfl,rfl,rfl,by decide +kernel,rfl,by decide +kernel,by decide +kernel⟩
theorem d_thinned (T:Tx K mg a) (D_law_tog:Dn P w K mg base 34 "_law_tog" ["which","one","other"] spLTog) (D_law_share:Dn P w K mg base 33 "_law_share" ["top","below"] spShare) (F:DefAt K mg "_law_thinned" (top 53)):Dn P w K mg base 35 "_law_thinned" ["many","roads"] spThin:=by
  obtain ⟨f,fd,hm,F⟩:=F.ex
  refine ⟨f,fd,hm,F.kp,F.binds fun _ _ _ _ _ _ us hl=>match us,hl with | [_,_],_=>rfl,?_⟩
  refine F.okN sc_law_thinned (fun vs H Q E h=>?_) (fun cdv A outer s H vs Q E hr h=>?_)
  · obtain ⟨_,_,_,_,rfl,_⟩:=h
    rfl
  · obtain ⟨n,rl,xs,rs,rfl,hx,hR,h64,hw,q⟩:=h
    have hl:=hR.length
    have sh:∀ r∈rs,ofR (toR r.w)=r.w∧0≤toR r.w∧Sm 110 (ofR (toR r.w)):=fun r hr=>by
      have iw:=(hw r hr).1
      have e:ofR (toR r.w)=r.w:=by
        refine ofR_toR ?_
        revert iw
        cases r.w with
        | pair x y=>simp only [isWorth,Bool.and_eq_true]; exact fun h=>h.1
        | _=>intro h; simp [isWorth] at h
      exact ⟨e,toR_nonneg iw,by rw [e]; exact (hw r hr).2⟩
    have nn:∀ (p:Int) (i:Nat),0≤shAll (frm p (rs.take i)):=fun p i=>sum_nonneg _ fun x hx=>by
      obtain ⟨y,hy,rfl⟩:=List.mem_map.mp hx
      obtain ⟨r,hr,rfl⟩:=List.mem_map.mp hy
      exact (sh r (List.mem_of_mem_take (List.mem_filter.mp hr).1)).2.1
    refine ⟨_,(pss_cons (ps_set (i:=2) sc_law_thinned.nd rfl (Or.inl rfl) (pe_lst pa_nil))
      (pss_cons (ps_for PassesOwn.never rfl (pi_list (pv 1)) (pg_name (i:=3) sc_law_thinned.nd rfl (Or.inl rfl)) (pss_cons (ps_set (i:=4) sc_law_thinned.nd rfl (Or.inl rfl) (pe_tup (pa_cons (hs:=st_Constant) pe_int (pa_cons (hs:=st_Constant) pe_int pa_nil))))
      (pss_cons (ps_for PassesOwn.never rfl (pi_list (pv 1)) (pg_name (i:=5) sc_law_thinned.nd rfl (Or.inl rfl)) (pss_one (ps_if (pt_cmpR op_eq (pe_ix ix_tup (pv 5) pe_int (fun _ _=>rfl)) (pe_ix ix_tup (pv 3) pe_int (fun _ _=>rfl)) (nomark _)) (pss_one (ps_set (i:=4) sc_law_thinned.nd rfl (Or.inl rfl) (pe_callD D_law_tog (hr.mono (by decide)) rfl passE0 (pa_cons (hs:=st_Constant) pe_int (pa_cons (hs:=st_Name) (pv 4) (pa_cons (hs:=st_Subscript) (pe_ix ix_tup (pv 5) pe_int (fun _ _=>rfl)) pa_nil)))))) pss_nil)))
      (pss_cons (ps_set (i:=6) sc_law_thinned.nd rfl (Or.inl rfl) (pe_ix ix_tup (pv 3) pe_int (fun _ _=>rfl)))
      (pss_cons (ps_if (pt_cmpR op_gt (pe_ix ix_tup (pv 4) pe_int (fun _ _=>rfl)) (pe_ix ix_tup (pv 4) pe_int (fun _ _=>rfl)) (nomark _)) (pss_one (ps_set (i:=6) sc_law_thinned.nd rfl (Or.inl rfl) (pe_callD D_law_share (hr.mono (by decide)) rfl passE0 (pa_cons (hs:=st_BinOp) (pe_op op_mulX (pe_ix ix_tup (pv 6) pe_int (fun _ _=>rfl)) (pe_ix ix_tup (pv 4) pe_int (fun _ _=>rfl))) (pa_cons (hs:=st_BinOp) (pe_op op_mulX (pe_ix ix_tup (pv 6) pe_int (fun _ _=>rfl)) (pe_ix ix_tup (pv 4) pe_int (fun _ _=>rfl))) pa_nil))))) pss_nil)
      (pss_one (ps_expr (pe_bm PySem.F.plainAttrs_list PySem.F.slot_list_append PySem.F.type_list_append mt_append (pv 2) (pa_cons (hs:=st_Tuple) (pe_tup (pa_cons (hs:=st_Subscript) (pe_ix ix_tup (pv 3) pe_int (fun _ _=>rfl)) (pa_cons (hs:=st_Subscript) (pe_ix ix_tup (pv 3) pe_int (fun _ _=>rfl)) (pa_cons (hs:=st_Name) (pv 6) pa_nil)))) pa_nil)))))))))
      (pss_one (ps_ret (pv 2))))),?_⟩
    refine ⟨(by show 0≤sizeLine; decide),fun fl nf=>?_⟩
    refine ⟨_,rfl,rl,rfl,⟨xs,SqL.of (same_one nf _ _ hx)⟩,for_list (xs:=xs) (fun i σ H'=>∃ ys o1 o2 o3 o4,σ=[some (.int n),some (.ref rl),some (.ref fl),o1,o2,o3,o4]∧Same H H'∧H' fl=some (.lst ys)∧ys.length≤i∧IsRoads H' ys ((thin rs).take i))
      ⟨[],_,_,_,_,rfl,same_one nf,upd_same,Nat.zero_le _,by simp; exact .nil⟩ (fun i σ H' _ ⟨_,_,_,_,_,_,s',_⟩=>SqL.of (s' _ _ hx)) ?_ ?_⟩
    · rintro i x σ H' ex ⟨ys,o1,o2,o3,o4,rfl,s',hf,hyl,hy⟩
      obtain ⟨r,er,pr,wv,rfl,e2,e3⟩:=pget hR ex
      have hi:i < xs.length:=(List.getElem?_eq_some_iff.mp ex).1
      have hrm:=List.mem_of_getElem? er
      refine ⟨(by show 2≤sizeLine; decide),fun p0 n0=>?_⟩
      refine ⟨_,rfl,rl,rfl,⟨xs,SqL.of (same_one n0 _ _ (s' _ _ hx))⟩,for_list (xs:=xs) (fun j σ H2=>∃ v o3,σ=[some (.int n),some (.ref rl),some (.ref fl),some (.ref pr),some v,o3,o4]∧Same H' H2∧IsW H2 v (ofR (shAll (frm r.f (rs.take j))))∧Sm (111 * j + 30) (ofR (shAll (frm r.f (rs.take j)))))
        ⟨_,_,rfl,same_one n0,upd_same,(show Sm 30 (ofR 0) by decide)⟩ (fun j σ H2 _ ⟨_,_,_,s2,_⟩=>SqL.of (s2 _ _ (s' _ _ hx))) ?_ ?_⟩
      · rintro j y σ H2 ey ⟨v,o3,rfl,s2,hv,sv⟩
        obtain ⟨r2,er2,pr2,wv2,rfl,e4,e5⟩:=pget hR ey
        have hj:j < xs.length:=(List.getElem?_eq_some_iff.mp ey).1
        have s02:=s'.trans s2
        refine ⟨_,rfl,pr2,_,_,_,rfl,rfl,SqT.of (s02 _ _ e4),rfl,_,rfl,pr,_,_,_,rfl,rfl,SqT.of (s02 _ _ e2),rfl,rfl,_,rfl,iteEqI (fun c=>?_) (fun c=>?_)⟩
        · obtain ⟨ew,ww,sw⟩:=sh r2 (List.mem_of_getElem? er2)
          refine ⟨_,rfl,_,rfl,pr2,_,_,_,rfl,rfl,SqT.of (s02 _ _ e4),rfl,.chances,trivial,v,wv2,⟨_,nn r.f j⟩,⟨toR r2.w,ww⟩,rfl,hv,?_,sv.mono (by show _≤16000000; omega),sw.mono (by decide),fun v3 H3 s3 hv3=>⟨v3,_,rfl,s2.trans s3,?_,?_⟩⟩
          · show IsW H2 wv2 (ofR (toR r2.w))
            rw [ew]; exact e5.same s02
          · rw [shAll_take er2,if_pos c]; exact hv3
          · rw [shAll_take er2,if_pos c]; exact (sm_addR sv sw).mono (by omega)
        · refine ⟨v,_,rfl,s2,?_,?_⟩
          · rw [shAll_take er2,if_neg c]; exact hv
          · rw [shAll_take er2,if_neg c]; exact sv.mono (by omega)
      · rintro σ H2 ⟨v,o3,rfl,s2,hv,sv⟩
        rw [hl,List.take_length] at hv sv
        obtain ⟨rv,rfl,ev⟩:=isW_pair hv
        have s02:=s'.trans s2
        obtain ⟨ew,ww,sw⟩:=sh r hrm
        refine ⟨_,rfl,pr,_,_,_,rfl,rfl,SqT.of (s02 _ _ e2),rfl,?_⟩
        have fin:∀ (v4:V) (o3:Option V) (H4:Hp),Same H2 H4→IsW H4 v4 (thinW rs r)→∀ t,H4 t=none→(upd H4 t (.tup [.int r.f,.int r.t,v4])) fl=some (.lst ys)∧(∃ ys' o1 o2 o3' o4,([some (.int n),some (.ref rl),some (.ref fl),some (.ref pr),some (.ref rv),o3,some v4]:St)=[some (.int n),some (.ref rl),some (.ref fl),o1,o2,o3',o4] ∧
            Same H (upd (upd H4 t (.tup [.int r.f,.int r.t,v4])) fl (.lst (ys ++ [.ref t])))∧(upd (upd H4 t (.tup [.int r.f,.int r.t,v4])) fl (.lst (ys ++ [.ref t]))) fl=some (.lst ys')∧ys'.length≤i + 1∧IsRoads (upd (upd H4 t (.tup [.int r.f,.int r.t,v4])) fl (.lst (ys ++ [.ref t]))) ys' ((thin rs).take (i + 1))):=by
          intro v4 o3 H4 s4 hv4 t nt
          have s5:Same H4 (upd H4 t (.tup [.int r.f,.int r.t,v4])):=same_one nt
          have hf5:=s5 _ _ (s4 _ _ (s2 _ _ hf))
          refine ⟨hf5,ys ++ [.ref t],_,_,_,_,rfl,?_,upd_same,by rw [List.length_append,List.length_singleton]; omega,?_⟩
          · exact same_upd ((s02.trans s4).trans s5) nf
          · have et:(thin rs)[i]?=some { r with w:=thinW rs r }:=by unfold thin; rw [List.getElem?_map,er]; rfl
            rw [List.take_add_one,et]
            have st:=(same_st ((s2.trans s4).trans s5)).trans (stup_lst (o:=.lst (ys ++ [.ref t])) hf5)
            refine Paired.snoc (hy.st st) ⟨t,v4,rfl,stup_lst hf5 _ _ upd_same,hv4.st ((same_st s5).trans (stup_lst hf5))⟩
        have e3':IsW H2 wv (ofR (toR r.w)):=by rw [ew]; exact e3.same s02
        obtain ⟨rw_,rfl,erw⟩:=isW_pair e3'
        have lz:ys.length < sizeLine:=lines (by omega)
        refine ⟨_,rfl,rv,_,_,_,rfl,rfl,SqT.of ev,rfl,_,rfl,rv,_,_,_,rfl,rfl,SqT.of ev,rfl,_,_,rfl,rfl,_,rfl,iteD (fun c=>?_) (fun c=>?_)⟩
        · have c1:1 < shAll (frm r.f rs):=Rat.not_le.mp fun z=>by have:=le_one.mpr z; omega
          have c0:0 < shAll (frm r.f rs):=by grind
          have sw':Sm Big (ofR (toR r.w)):=sw.mono (by decide)
          have sv':Sm Big (ofR (shAll (frm r.f rs))):=sv.mono (by show _≤16000000; omega)
          refine ⟨_,rfl,rw_,_,_,_,rfl,rfl,SqT.of erw,rfl,_,rfl,rv,_,_,_,rfl,rfl,SqT.of ev,rfl,_,_,rfl,rfl,big_mul sw'.1 sv'.2,?_⟩
          refine ⟨_,rfl,rw_,_,_,_,rfl,rfl,SqT.of erw,rfl,_,rfl,rv,_,_,_,rfl,rfl,SqT.of ev,rfl,_,_,rfl,rfl,big_mul sw'.2 sv'.1,?_⟩
          refine ⟨_,_,rfl,Int.mul_nonneg (Rat.num_nonneg.mpr ww) (Int.le_of_lt (den_pos _)),Int.mul_pos (den_pos _) (num_pos.mpr c0),fun v4 H4 s4 hv4=>?_⟩
          rw [over_shareW c0] at hv4
          have hv4:IsW H4 v4 (thinW rs r):=by rw [thinW,if_pos c1]; exact hv4
          have f4:=s4 _ _ (s2 _ _ hf)
          have s04:=s02.trans s4
          refine ⟨_,rfl,.inl ⟨rfl,_,SqL.of f4⟩,_,rfl,pr,_,_,_,rfl,rfl,SqT.of (s04 _ _ e2),rfl,_,rfl,pr,_,_,_,rfl,rfl,SqT.of (s04 _ _ e2),rfl,_,rfl,(by show 3≤sizeLine; decide),fun t nt=>?_⟩
          obtain ⟨g1,g2⟩:=fin v4 o3 H4 s4 hv4 t nt
          exact ⟨fl,_,_,rfl,rfl,g1,lz,g2⟩
        · have c1:¬ 1 < shAll (frm r.f rs):=fun z=>by
            have:=le_one (q:=shAll (frm r.f rs))
            have:¬ (shAll (frm r.f rs)).num≤(shAll (frm r.f rs)).den:=fun y=>by have:=this.mp y; grind
            omega
          have hv4:IsW H2 (.ref rw_) (thinW rs r):=by rw [thinW,if_neg c1,← ew]; exact e3'
          have f4:=s2 _ _ hf
          refine ⟨_,rfl,.inl ⟨rfl,_,SqL.of f4⟩,_,rfl,pr,_,_,_,rfl,rfl,SqT.of (s02 _ _ e2),rfl,_,rfl,pr,_,_,_,rfl,rfl,SqT.of (s02 _ _ e2),rfl,_,rfl,(by show 3≤sizeLine; decide),fun t nt=>?_⟩
          obtain ⟨g1,g2⟩:=fin (.ref rw_) o3 H2 (Same.refl H2) hv4 t nt
          exact ⟨fl,_,_,rfl,rfl,g1,lz,g2⟩
    · rintro σ H' ⟨ys,o1,o2,o3,o4,rfl,s',hf,hyl,hy⟩
      have hlt:xs.length=(thin rs).length:=by unfold thin; rw [List.length_map]; exact hl
      rw [hlt,List.take_length] at hy
      exact ⟨_,rfl,q fl ys H' s' nf hf hy⟩
def spLNet (K:PySem.W.Frag):Sp:=fun vs H Q _=>∃ (sa:Addr) (ns:List Int) (at_ which m:Int) (most extra:Nat),vs=[.ref sa,.int at_,.int which,.int m,.int (most:Int),.int (extra:Int)]∧SqL K H sa (ns.map V.int)∧0≤at_∧0≤which∧which < 7∧1≤m∧m≤12∧1≤most∧most≤8∧extra≤64 ∧
  ∀ p l xs n rs H',Same H H'→H l=none→H' p=some (.tup [.int (n:Nat),.ref l])→H' l=some (.lst xs)→IsRoads H' xs rs→Good (kdOf which m) most extra n rs→Q (.ref p) H'
theorem log9 {i:Int} (h0:0≤i) (h:i < 1000000):i.natAbs.log2 < 9000:=by
  have z:(1000000:Nat) < 10 ^ 62:=by decide
  exact Nat.lt_trans (log2_small (by omega)) (by decide)
theorem bits8 {k:Int} (k0:0≤k) (k8:k≤8):Builtin.Int.intBits k≤Big:=by
  have z:(2:Nat) ^ 4=16:=by decide
  exact bits_le (Nat.lt_of_lt_of_le (show k.natAbs < 2 ^ 4 by omega) (Nat.pow_le_pow_right (by decide) (by decide)))
theorem modlt {i:Int} {m:Nat} (h:0 < m):∃ k:Nat,i % (m:Int)=k∧k < m:=⟨(i % m).toNat,by have:=Int.emod_nonneg i (show (m:Int)≠0 by omega); omega,by have:=Int.emod_lt_of_pos i (show (0:Int) < m by omega); have:=Int.emod_nonneg i (show (m:Int)≠0 by omega); omega⟩
theorem sc_law_net:FnScope ["script","at","which","m","most","extra","many","roads","k","cell","worth"] ["script","at","which","m","most","extra"] (defScope (top 54)):=⟨rfl,rfl,rfl,by decide +kernel,rfl,by decide +kernel,by decide +kernel⟩
theorem d_net (T:Tx K mg a) (D_law_cell_at:Dn P w K mg base 1 "_law_cell_at" ["script","k"] (spCell K)) (D_law_worth:Dn P w K mg base 34 "_law_worth" ["which","m","cell"] spWorth) (D_law_thinned:Dn P w K mg base 35 "_law_thinned" ["many","roads"] spThin)
    (F:DefAt K mg "_law_net" (top 54)):Dn P w K mg base 36 "_law_net" ["script","at","which","m","most","extra"] (spLNet K):=by
  obtain ⟨f,fd,hm,F⟩:=F.ex
  refine ⟨f,fd,hm,F.kp,F.binds fun _ _ _ _ _ _ us hl=>match us,hl with | [_,_,_,_,_,_],_=>rfl,?_⟩
  refine F.okN sc_law_net (fun vs H Q E h=>?_) (fun cdv A outer s H vs Q E hr h=>?_)
  · obtain ⟨_,_,_,_,_,_,_,rfl,_⟩:=h
    rfl
  · obtain ⟨sa,ns,at_,which,m,most,extra,rfl,hS,a0,w0,w7,m1,m12,mo1,mo8,ex64,q⟩:=h
    refine ⟨_,(pss_cons (ps_set (i:=6) sc_law_net.nd rfl (Or.inl rfl) (pe_op op_add pe_int (pe_op op_mod (pe_callD D_law_cell_at (hr.mono (by decide)) rfl passE0 (pa_cons (hs:=st_Name) (pv 0) (pa_cons (hs:=st_Name) (pv 1) pa_nil))) (pv 4))))
      (pss_cons (ps_set (i:=7) sc_law_net.nd rfl (Or.inl rfl) (pe_lst pa_nil))
      (pss_cons (ps_for PassesOwn.never rfl (pi_range1 rfl T.b_range (pa_cons (hs:=st_BinOp) (pe_op op_mod (pe_op op_fdivX (pe_callD D_law_cell_at (hr.mono (by decide)) rfl passE0 (pa_cons (hs:=st_Name) (pv 0) (pa_cons (hs:=st_Name) (pv 1) pa_nil))) (pv 4)) (pe_op op_add (pv 5) pe_int)) pa_nil)) (pg_name (i:=8) sc_law_net.nd rfl (Or.inl rfl)) (pss_cons (ps_set (i:=9) sc_law_net.nd rfl (Or.inl rfl) (pe_callD D_law_cell_at (hr.mono (by decide)) rfl passE0 (pa_cons (hs:=st_Name) (pv 0) (pa_cons (hs:=st_BinOp) (pe_op op_add (pe_op op_add (pv 1) pe_int) (pv 8)) pa_nil))))
      (pss_cons (ps_set (i:=10) sc_law_net.nd rfl (Or.inl rfl) (pe_callD D_law_worth (hr.mono (by decide)) rfl passE0 (pa_cons (hs:=st_Name) (pv 2) (pa_cons (hs:=st_Name) (pv 3) (pa_cons (hs:=st_BinOp) (pe_op op_fdivX (pv 9) (pe_op op_mulX (pv 6) (pv 6))) pa_nil)))))
      (pss_one (ps_expr (pe_bm PySem.F.plainAttrs_list PySem.F.slot_list_append PySem.F.type_list_append mt_append (pv 7) (pa_cons (hs:=st_Tuple) (pe_tup (pa_cons (hs:=st_BinOp) (pe_op op_mod (pv 9) (pv 6)) (pa_cons (hs:=st_BinOp) (pe_op op_mod (pe_op op_fdivX (pv 9) (pv 6)) (pv 6)) (pa_cons (hs:=st_Name) (pv 10) pa_nil)))) pa_nil)))))))
      (pss_cons (ps_if (pt_cmpR op_eq (pv 2) pe_int (nomark _)) (pss_one (ps_set (i:=7) sc_law_net.nd rfl (Or.inl rfl) (pe_callD D_law_thinned (hr.mono (by decide)) rfl passE0 (pa_cons (hs:=st_Name) (pv 6) (pa_cons (hs:=st_Name) (pv 7) pa_nil))))) pss_nil)
      (pss_one (ps_ret (pe_tup (pa_cons (hs:=st_Name) (pv 6) (pa_cons (hs:=st_Name) (pv 7) pa_nil))))))))),?_⟩
    obtain ⟨n0,en,ln⟩:=modlt (i:=ns.getD at_.toNat 0) (m:=most) (by omega)
    refine ⟨_,rfl,_,rfl,sa,ns,at_,rfl,hS,a0,_,rfl,_,_,rfl,rfl,(by show (0:Int) < most; omega),_,_,rfl,rfl,?_⟩
    dsimp only
    rw [en]
    obtain ⟨n,rfl⟩:∃ n:Nat,n=1 + n0:=⟨_,rfl⟩
    rw [show (1:Int) + (n0:Nat)=((1 + n0:Nat):Int) by omega]
    refine ⟨(by show 0≤sizeLine; decide),fun rl nl=>?_⟩
    obtain ⟨c,ec,lc⟩:=modlt (i:=ns.getD at_.toNat 0 / most) (m:=extra + 1) (by omega)
    have s1:Same H (upd H rl (.lst [])):=same_one nl
    refine ⟨_,rfl,_,rfl,sa,ns,at_,rfl,same_lst s1 hS,a0,_,rfl,_,_,rfl,rfl,⟨by show (0:Int) < most; omega,log9 (by omega) (by omega)⟩,?_⟩
    refine ⟨_,rfl,_,_,rfl,rfl,_,_,rfl,rfl,(by show (0:Int) < (extra:Int) + 1; omega),(c:Int),?_,by omega,by omega,?_⟩
    · show [V.int _]=[V.int _]
      rw [← ec]; rfl
    refine for_range (n:=(c:Int).toNat) (fun i σ H'=>∃ xs rs o1 o2 o3,σ=[some (.ref sa),some (.int at_),some (.int which),some (.int m),some (.int (most:Int)),some (.int (extra:Int)),some (.int ((1 + n0:Nat):Int)),some (.ref rl),o1,o2,o3]∧Same H H'∧H' rl=some (.lst xs)∧IsRoads H' xs rs∧xs.length=i ∧
      rs.all (endOk ((1 + n0:Nat):Int))=true∧∀ r∈rs,∃ c,r.w=worthW which m c) ⟨[],[],_,_,_,rfl,s1,upd_same,.nil,rfl,rfl,fun r hr=>nomatch hr⟩ ?_ ?_
    · rintro i σ H' hi ⟨xs,rs,o1,o2,o3,rfl,s',hf,hR,hln,he,hw⟩
      have hi:i < c:=by omega
      refine ⟨_,rfl,_,rfl,_,_,rfl,rfl,_,rfl,_,_,rfl,rfl,sa,ns,_,rfl,same_lst s' hS,by show 0≤at_ + 1 + (0 + (i:Int)); omega,?_⟩
      generalize ns.getD (at_ + 1 + (0 + (i:Int))).toNat 0=cell
      have nn:(1:Int)≤(1 + n0:Nat):=by omega
      have n9:((1 + n0:Nat):Int)≤8:=by omega
      have nm1:1≤((1 + n0:Nat):Int) * (1 + n0:Nat):=by have:=Int.mul_le_mul nn nn (by omega) (by omega); omega
      have nm2:((1 + n0:Nat):Int) * (1 + n0:Nat)≤64:=by have:=Int.mul_le_mul n9 n9 (by omega) (by omega); omega
      refine ⟨_,rfl,_,rfl,_,rfl,_,rfl,_,rfl,_,_,rfl,rfl,big_mul (bits8 (by omega) n9) (bits8 (by omega) n9),_,_,rfl,rfl,⟨by omega,log9 (by omega) (by omega)⟩,which,m,_,rfl,w0,w7,m1,m12,fun v H2 s2 hv=>?_⟩
      have f2:=s2 _ _ hf
      refine ⟨_,rfl,.inl ⟨rfl,_,SqL.of f2⟩,_,rfl,_,rfl,_,_,rfl,rfl,(by show (0:Int) < (1 + n0:Nat); omega),_,rfl,_,rfl,_,_,rfl,rfl,⟨by show (0:Int) < (1 + n0:Nat); omega,log9 (by omega) (by omega)⟩,_,rfl,_,_,rfl,rfl,(by show (0:Int) < (1 + n0:Nat); omega),_,rfl,(by show 3≤sizeLine; decide),fun t nt=>?_⟩
      have f3:=same_one (o:=.tup [.int (cell % ((1 + n0:Nat):Int)),.int (cell / ((1 + n0:Nat):Int) % ((1 + n0:Nat):Int)),v]) nt _ _ f2
      have s3:Same H2 (upd H2 t (.tup [.int (cell % ((1 + n0:Nat):Int)),.int (cell / ((1 + n0:Nat):Int) % ((1 + n0:Nat):Int)),v])):=same_one nt
      refine ⟨rl,_,_,rfl,rfl,f3,lines (by omega),xs ++ [.ref t],rs ++ [⟨cell % ((1 + n0:Nat):Int),cell / ((1 + n0:Nat):Int) % ((1 + n0:Nat):Int),worthW which m (cell / (((1 + n0:Nat):Int) * ((1 + n0:Nat):Int)))⟩],_,_,_,rfl,same_upd ((s'.trans s2).trans s3) nl,upd_same,?_,?_,?_,?_⟩
      · have st:=(same_st (s2.trans s3)).trans (stup_lst (o:=.lst (xs ++ [.ref t])) f3)
        exact Paired.snoc (hR.st st) ⟨t,v,rfl,stup_lst f3 _ _ upd_same,hv.st ((same_st s3).trans (stup_lst f3))⟩
      · rw [List.length_append,List.length_singleton,hln]
      · rw [List.all_append,he]
        have a1:=Int.emod_nonneg cell (show ((1 + n0:Nat):Int)≠0 by omega)
        have a2:=Int.emod_lt_of_pos cell (show (0:Int) < (1 + n0:Nat) by omega)
        have a3:=Int.emod_nonneg (cell / ((1 + n0:Nat):Int)) (show ((1 + n0:Nat):Int)≠0 by omega)
        have a4:=Int.emod_lt_of_pos (cell / ((1 + n0:Nat):Int)) (show (0:Int) < (1 + n0:Nat) by omega)
        simp only [List.all_cons,List.all_nil,Bool.and_true,Bool.true_and,endOk,Bool.and_eq_true,decide_eq_true_eq]
        exact ⟨⟨a1,a2⟩,a3,a4⟩
      · intro r hr
        rcases List.mem_append.mp hr with hr | hr
        · exact hw r hr
        · rw [List.mem_singleton.mp hr]; exact ⟨_,rfl⟩
    · rintro σ H' ⟨xs,rs,o1,o2,o3,rfl,s',hf,hR,hln,he,hw⟩
      have hl:=hR.length
      have G:=drawn_good (most:=most) (extra:=extra) (n:=1 + n0) w0 w7 m1 m12 (by omega) (by omega) (by omega) ex64 he hw
      refine ⟨_,rfl,rfl,_,rfl,iteEqI (fun e4=>?_) (fun e4=>?_)⟩
      · subst e4
        rw [if_pos rfl] at G
        refine ⟨_,rfl,_,rfl,_,rl,xs,rs,rfl,hf,hR,by omega,fun r hr=>?_,fun l ys H2 s2 nl2 hl2 hR2=>?_⟩
        · obtain ⟨c,e⟩:=hw r hr
          rw [e]
          exact ⟨isWorth_worth (which:=4) (by decide) (by decide) m1,sm_worthW m1 m12⟩
        · refine ⟨_,rfl,_,rfl,(by show 2≤sizeLine; decide),fun p np=>?_⟩
          have s3:Same H2 (upd H2 p (.tup [.int ((1 + n0:Nat):Int),.ref l])):=same_one np
          exact q p l ys (1 + n0) (thin rs) _ ((s'.trans s2).trans s3) (same_none s' nl2) upd_same (s3 _ _ hl2) (hR2.same s3) G
      · rw [if_neg e4] at G
        refine ⟨_,rfl,_,rfl,(by show 2≤sizeLine; decide),fun p np=>?_⟩
        have s3:Same H' (upd H' p (.tup [.int ((1 + n0:Nat):Int),.ref rl])):=same_one np
        exact q p rl xs (1 + n0) rs _ (s'.trans s3) nl upd_same (s3 _ _ hf) (hR.same s3) G
end
end K13
namespace K13
open PySem L2 Ws
seal PE PT PW PA PC PS PSs PG PGs PI PO PJ PTs
section
variable {P : Program} {w : World} {K : PySem.W.Frag} {mg : Str → Option Value} {base : Heap} {a : Adr}
def spPlace (a:Adr):Sp:=fun vs H Q E=>∃ (np:Addr) (p:Int) (kd:Kd) (n:Nat) (kp tp:Addr) (xs:List V) (rs:List Road),vs=[.ref np,.int p]∧NetIs a H np kd n kp tp xs rs∧p.natAbs < 10 ^ 62∧(0≤p∧p < n→Q .non H)∧(¬ (0≤p∧p < n)→E (.ref a.cNoPlace) none H)
theorem sc_check_place:FnScope ["net","place"] ["net","place"] (defScope (top 35)):=⟨rfl,rfl,rfl,by decide +kernel,rfl,by decide +kernel,by decide +kernel⟩
theorem d_check_place (T:Tx K mg a) (V_places:Mth P w K mg base 1 (fun _:Unit=>a.cNet) "places" ["self"] (fun _=>spNPlaces a)) (F:DefAt K mg "check_place" (top 35)):Dn P w K mg base 2 "check_place" ["net","place"] (spPlace a):=by
  obtain ⟨f,fd,hm,F⟩:=F.ex
  refine ⟨f,fd,hm,F.kp,F.binds fun _ _ _ _ _ _ us hl=>match us,hl with | [_,_],_=>rfl,?_⟩
  refine F.okX sc_check_place (fun vs H Q E h=>?_) (fun cdv A outer s H vs Q E hr h=>?_)
  · obtain ⟨_,_,_,_,_,_,_,_,rfl,_⟩:=h
    rfl
  · obtain ⟨np,p,kd,n,kp,tp,xs,rs,rfl,N,hp,q,e⟩:=h
    refine ⟨_,(pss_one (ps_if (PW.pt (pw_or (pt_cmpR op_lt (pv 1) pe_int (nomark _)) (pw_or1 (pt_cmpR op_ge (pv 1) (pe_methV0 (pv 0) V_places (hr.mono (by decide)) pass_cx) (nomark _))))) (pss_one (ps_raise T.x_NoPlace rfl rfl rais_cx (pa_cons (hs:=st_JoinedStr) (pe_fstrN (pj_int (pv 1) (pj_str pj_nil))) pa_nil))) pss_nil)),?_⟩
    have hs:(Str.ofString " is no place of the net").length≤1000:=by decide +kernel
    obtain ⟨dx,hx⟩:=N.ins
    refine ⟨_,rfl,_,_,rfl,rfl,_,rfl,iteD (fun c=>?_) (fun c=>?_)⟩
    · exact ⟨_,rfl,_,rfl,log2_small hp,hs,fun z=>⟨by show 1≤sizeLine; decide,e (by omega)⟩⟩
    · refine ⟨_,rfl,_,rfl,(),np,dx,_,rfl,hx,rfl,np,kp,tp,kd,n,xs,rs,rfl,N,_,_,rfl,rfl,_,rfl,iteD (fun c2=>?_) (fun c2=>?_)⟩
      · exact ⟨_,rfl,_,rfl,log2_small hp,hs,fun z=>⟨by show 1≤sizeLine; decide,e (by omega)⟩⟩
      · exact q (by omega)
end
end K13
namespace K13
open PySem L2 Ws
seal PE PT PW PA PC PS PSs PG PGs PI PO PJ PTs
def IsVec (H:Hp) (kd:Kd) (B n:Nat) (ys:List V) (f:Nat→Car kd):Prop:=ys.length=n∧∀ i,i < n→∃ v,ys[i]?=some v∧IsW H v (enc kd (f i))∧Sm B (enc kd (f i))
theorem IsVec.st {H H':Hp} {kd:Kd} {B n:Nat} {ys:List V} {f:Nat→Car kd} (e:STup H H') (h:IsVec H kd B n ys f):IsVec H' kd B n ys f:=⟨h.1,fun i hi=>let ⟨v,a,b,c⟩:=h.2 i hi; ⟨v,a,b.st e,c⟩⟩
theorem IsVec.eq {H:Hp} {kd:Kd} {B n:Nat} {ys:List V} {f g:Nat→Car kd} (h:IsVec H kd B n ys f) (e:∀ i,i < n→f i=g i):IsVec H kd B n ys g:=⟨h.1,fun i hi=>by rw [← e i hi]; exact h.2 i hi⟩
theorem IsVec.set {H:Hp} {kd:Kd} {B n t:Nat} {ys:List V} {f:Nat→Car kd} {v:V} {x:Car kd} (h:IsVec H kd B n ys f) (hv:IsW H v (enc kd x)) (sv:Sm B (enc kd x)):IsVec H kd B n (ys.set t v) (fun i=>if i=t then x else f i):=by
  refine ⟨by rw [List.length_set]; exact h.1,fun i hi=>?_⟩
  by_cases c:i=t
  · subst c
    exact ⟨v,by rw [List.getElem?_set_self (by rw [h.1]; exact hi)],by show IsW H v (enc kd (if i=i then x else f i)); rw [if_pos rfl]; exact hv,by show Sm B (enc kd (if i=i then x else f i)); rw [if_pos rfl]; exact sv⟩
  · obtain ⟨u,a,b,d⟩:=h.2 i hi
    exact ⟨u,by rw [List.getElem?_set_ne (Ne.symm c)]; exact a,by show IsW H u (enc kd (if i=t then x else f i)); rw [if_neg c]; exact b,by show Sm B (enc kd (if i=t then x else f i)); rw [if_neg c]; exact d⟩
theorem IsVec.rep {H:Hp} {kd:Kd} {B n:Nat} {v:V} {x:Car kd} (hv:IsW H v (enc kd x)) (sv:Sm B (enc kd x)):IsVec H kd B n (List.replicate n v) (fun _=>x) :=
  ⟨List.length_replicate,fun i hi=>⟨v,by rw [List.getElem?_replicate,if_pos hi],hv,sv⟩⟩
theorem ixN_nat {n j:Nat} (h:j < n):ixN n (j:Int)=some j:=by
  unfold ixN
  rw [if_pos (by omega),if_pos (by omega)]; simp
theorem rep_flat (x:V) (k:Nat):(List.replicate k [x]).flatten=List.replicate k x:=by
  induction k with
  | zero=>rfl
  | succ k ih=>rw [List.replicate_succ,List.flatten_cons,ih]; rfl
section
variable {P : Program} {w : World} {K : PySem.W.Frag} {mg : Str → Option Value} {base : Heap} {a : Adr}
theorem stepV_take {S:Type} {M:KSR S} {es:List (Edge S)} {j:Nat} {e:Edge S} (h:es[j]?=some e) (f:Nat→S) (t:Nat):stepV M (es.take (j + 1)) f t=if t=e.t then M.add (stepV M (es.take j) f t) (M.mul (f e.f) e.c) else stepV M (es.take j) f t:=by
  unfold stepV
  rw [List.take_add_one,h,Option.toList_some,List.map_append,List.map_singleton,M.sum_snoc]
  unfold KSR.when
  by_cases c:t=e.t
  · rw [if_pos c.symm,if_pos c]
  · rw [if_neg (Ne.symm c),if_neg c,M.add_zero]
end
end K13
namespace K13
open PySem L2 Ws
theorem mIs {kd:Kd} {which m:Int} (h:kd=kdOf which m) (m1:1≤m):MIs kd m:=fun n e=>by
  rw [h] at e
  unfold kdOf at e
  repeat' split at e
  all_goals first | cases e | skip
  omega
end K13
namespace K13
open PySem L2 Ws
seal PE PT PW PA PC PS PSs PG PGs PI PO PJ PTs
abbrev TB:Nat:=2100000
structure IsMat (H:Hp) (kd:Kd) (n:Nat) (rl:Addr) (rs:List Addr) (A:Mat (Car kd)):Prop where
  top:H rl=some (.lst (rs.map V.ref))
  len:rs.length=n
  nd:rs.Nodup
  off:rl ∉ rs
  row:∀ i r,rs[i]?=some r→∃ ys,H r=some (.lst ys)∧IsVec H kd TB n ys (A i)
theorem IsMat.same {H H':Hp} {kd:Kd} {n:Nat} {rl:Addr} {rs:List Addr} {A:Mat (Car kd)} (e:Same H H') (h:IsMat H kd n rl rs A):IsMat H' kd n rl rs A :=
  ⟨e _ _ h.top,h.len,h.nd,h.off,fun i r hi=>let ⟨ys,a,b⟩:=h.row i r hi; ⟨ys,e _ _ a,b.st (same_st e)⟩⟩
theorem IsMat.eq {H:Hp} {kd:Kd} {n:Nat} {rl:Addr} {rs:List Addr} {A B:Mat (Car kd)} (h:IsMat H kd n rl rs A) (e:∀ i j,i < n→j < n→A i j=B i j):IsMat H kd n rl rs B :=
  ⟨h.top,h.len,h.nd,h.off,fun i r hi=>let ⟨ys,a,b⟩:=h.row i r hi; ⟨ys,a,b.eq fun j hj=>e i j (by have:=(List.getElem?_eq_some_iff.mp hi).1; rw [h.len] at this; exact this) hj⟩⟩
theorem nd_at {rs:List Addr} (h:rs.Nodup) {i j:Nat} {r:Addr} (a:rs[i]?=some r) (b:rs[j]?=some r):i=j:=by
  have li:=(List.getElem?_eq_some_iff.mp a).1
  exact (List.getElem?_inj li h).mp (a.trans b.symm)
theorem IsMat.set {H:Hp} {kd:Kd} {n:Nat} {rl r:Addr} {rs:List Addr} {A:Mat (Car kd)} {i t:Nat} {ys:List V} {v:V} {x:Car kd} (h:IsMat H kd n rl rs A) (hi:rs[i]?=some r) (hy:H r=some (.lst ys)) (hv:IsW H v (enc kd x)) (sv:Sm TB (enc kd x)) :
    IsMat (upd H r (.lst (ys.set t v))) kd n rl rs (fun a b=>if a=i∧b=t then x else A a b):=by
  have hrl:rl≠r:=fun z=>h.off (z ▸ List.mem_of_getElem? hi)
  refine ⟨by rw [upd_ne hrl]; exact h.top,h.len,h.nd,h.off,fun a b ha=>?_⟩
  by_cases c:a=i
  · subst c
    rw [hi] at ha; cases ha
    obtain ⟨ys',e1,e2⟩:=h.row a r hi
    rw [hy] at e1; cases e1
    refine ⟨_,upd_same,((e2.st (stup_lst hy)).set (t:=t) (hv.st (stup_lst hy)) sv).eq fun j _=>?_⟩
    by_cases d:j=t
    · rw [if_pos d,if_pos ⟨rfl,d⟩]
    · rw [if_neg d,if_neg (fun z=>d z.2)]
  · have nb:b≠r:=fun z=>c (nd_at h.nd ha (z ▸ hi))
    obtain ⟨ys',e1,e2⟩:=h.row a b ha
    refine ⟨ys',by rw [upd_ne nb]; exact e1,(e2.st (stup_lst hy)).eq fun j _=>?_⟩
    rw [if_neg (fun z=>c z.1)]
theorem mat_at {H:Hp} {kd:Kd} {n:Nat} {rl:Addr} {rs:List Addr} {A:Mat (Car kd)} (h:IsMat H kd n rl rs A) {i:Nat} (hi:i < n):∃ r ys,rs[i]?=some r∧atI (rs.map V.ref) (i:Int)=some (V.ref r)∧H r=some (.lst ys)∧IsVec H kd TB n ys (A i):=by
  have e:rs[i]?=some (rs[i]'(by rw [h.len]; exact hi)):=List.getElem?_eq_getElem _
  obtain ⟨ys,a,b⟩:=h.row i _ e
  exact ⟨_,ys,e,atI_nat (by rw [List.getElem?_map,e]; rfl),a,b⟩
section
variable {P : Program} {w : World} {K : PySem.W.Frag} {mg : Str → Option Value} {base : Heap} {a : Adr}
def spStraight (a:Adr):Sp:=fun vs H Q _=>∃ (np kp tp:Addr) (kd:Kd) (ok:KdOk kd) (n:Nat) (xs:List V) (es:List (Edge (Car kd))),vs=[.ref np]∧NetIs a H np kd n kp tp xs (es.map (Edge.road kd))∧HasK kd∧GrT kd ok n es ∧
  ∀ rl rs H',Same H H'→IsMat H' kd n rl rs (edgeM (ks kd ok) es)→Q (.ref rl) H'
theorem sc_straight:FnScope ["net","kind","rows","road","row"] ["net"] (defScope (top 38)):=⟨rfl,rfl,rfl,by decide +kernel,rfl,by decide +kernel,by decide +kernel⟩
theorem d_straight (T:Tx K mg a) (V_kind:Mth P w K mg base 1 (fun _:Unit=>a.cNet) "kind" ["self"] (fun _=>spNKind a)) (V_places:Mth P w K mg base 1 (fun _:Unit=>a.cNet) "places" ["self"] (fun _=>spNPlaces a)) (V_roads:Mth P w K mg base 1 (fun _:Unit=>a.cNet) "roads" ["self"] (fun _=>spNRoads a))
    (V_none:Mth P w K mg base 1 a.cl "none" ["self"] (fun i=>spZero a i.1)) (V_together:Mth P w K mg base 35 a.cl "together" ["self","one","other"] (fun i=>spAdd a i.1)) (F:DefAt K mg "straight" (top 38)):Dn P w K mg base 36 "straight" ["net"] (spStraight a):=by
  obtain ⟨f,fd,hm,F⟩:=F.ex
  refine ⟨f,fd,hm,F.kp,F.binds fun _ _ _ _ _ _ us hl=>match us,hl with | [_],_=>rfl,?_⟩
  refine F.okN sc_straight (fun vs H Q E h=>?_) (fun cdv A outer s H vs Q E hr h=>?_)
  · obtain ⟨_,_,_,_,_,_,_,_,rfl,_⟩:=h
    rfl
  · obtain ⟨np,kp,tp,kd,ok,n,xs,es,rfl,N,hK,G,q⟩:=h
    refine ⟨_,(pss_cons (ps_set (i:=1) sc_straight.nd rfl (Or.inr rfl) (pe_methV0 (pv 0) V_kind (hr.mono (by decide)) passE0))
      (pss_cons (ps_setC (i:=2) sc_straight.nd rfl rfl (N:=["net","kind","rows","road","row"]) (osc:=defScope (top 38)) (k:=1) (N':=["place","net","kind"]) (fr:=[0,1]) ⟨rfl,by decide +kernel,by decide +kernel,by decide +kernel,rfl,by decide +kernel,by decide +kernel⟩ rfl rfl rfl (pi_range1 rfl T.b_range (pa_cons (hs:=st_Call) (pe_methV0 (pv 0) V_places (hr.mono (by decide)) passE0) pa_nil)) (fun ca=>⟨(pg_name (i:=0) (show List.Nodup (["place","net","kind"]:List Str) from by decide +kernel) rfl (Or.inl rfl)),pts_nil,(pe_op op_rep (pe_lst (pa_cons (hs:=st_Call) (pe_methV0 (pv 2) V_none (hr.mono (by decide)) passE0) pa_nil)) (pe_methV0 (pv 1) V_places (hr.mono (by decide)) passE0))⟩))
      (pss_cons (ps_for PassesOwn.never rfl (pi_list (pe_methV0 (pv 0) V_roads (hr.mono (by decide)) passE0)) (pg_name (i:=3) sc_straight.nd rfl (Or.inl rfl)) (pss_cons (ps_set (i:=4) sc_straight.nd rfl (Or.inl rfl) (pe_ix ix_list (pv 2) (pe_ix ix_tup (pv 3) pe_int (fun _ _=>rfl)) (fun _ _=>rfl)))
      (pss_one (ps_asg (pe_methV (pv 1) V_together (hr.mono (by decide)) passE0 (pa_cons (hs:=st_Subscript) (pe_ix ix_list (pv 4) (pe_ix ix_tup (pv 3) pe_int (fun _ _=>rfl)) (fun _ _=>rfl)) (pa_cons (hs:=st_Subscript) (pe_ix ix_tup (pv 3) pe_int (fun _ _=>rfl)) pa_nil))) (pg_sub (pv 4) (pe_ix ix_tup (pv 3) pe_int (fun _ _=>rfl)) set_list)))))
      (pss_one (ps_ret (pv 2)))))),?_⟩
    obtain ⟨dx,hx⟩:=N.ins
    obtain ⟨kdx,hk⟩:=N.kind
    have nb:=G.nb
    have hl:xs.length=es.length:=by rw [N.rds.length,List.length_map]
    refine ⟨_,rfl,(),np,dx,_,rfl,hx,rfl,np,kp,tp,kd,n,xs,_,rfl,N,?_⟩
    dsimp only [gName]
    refine seqK (fun σ H'=>∃ rl rs,σ=[some (.ref np),some (.ref kp),some (.ref rl),none,none]∧Same H H'∧(∀ r∈rs,H r=none)∧H rl=none∧IsMat H' kd n rl rs (fun _ _=>(ks kd ok).zero)) (fun nx kk=>?_) ?_
    · refine ⟨_,rfl,(),np,dx,_,rfl,hx,rfl,np,kp,tp,kd,n,xs,_,rfl,N,(n:Int),rfl,by omega,by omega,comp_range (n:=(n:Int).toNat) (fun j ys H'=>Same H H'∧∃ rs:List Addr,ys=rs.map V.ref∧rs.length=j∧rs.Nodup∧(∀ r∈rs,H r=none)∧∀ r∈rs,∃ zs,H' r=some (.lst zs)∧IsVec H' kd TB n zs (fun _=>(ks kd ok).zero)) (lines (by omega)) ⟨Same.refl H,[],rfl,rfl,List.nodup_nil,(fun r hr=>by cases hr),(fun r hr=>by cases hr)⟩ ?_ ?_⟩
      · rintro j ys H' hj ⟨s',rs,rfl,hlen,hnd,hnew,hrow⟩ ca
        refine ⟨⟨rfl,rfl⟩,?_⟩
        refine ⟨_,rfl,⟨kd,hK⟩,kp,kdx,_,rfl,s' _ _ hk,kfs_no _ (by decide +kernel),kp,ok,rfl,⟨kdx,s' _ _ hk⟩,fun v5 H5 s5 w5=>?_⟩
        refine ⟨(by show 1≤sizeLine; decide),fun l5 m5=>?_⟩
        have u5:=same_one (o:=.lst [v5]) m5
        have s06:=(s'.trans s5).trans u5
        refine ⟨_,rfl,(),np,dx,_,rfl,s06 _ _ hx,rfl,np,kp,tp,kd,n,xs,_,rfl,N.same s06,l5,_,_,rfl,rfl,upd_same,by show -(2 ^ 63)≤(n:Int); omega,by show (n:Int) < 2 ^ 63; omega,Nat.le_of_lt (lines (by show 1 * (n:Int).toNat≤1000; omega)),fun l6 m6=>?_⟩
        have u6:=same_one (o:=.lst (List.replicate (n:Int).toNat [v5]).flatten) m6
        have z6:(upd (upd H5 l5 (.lst [v5])) l6 (.lst (List.replicate (n:Int).toNat [v5]).flatten)) l6=some (.lst (List.replicate n v5)):=by rw [upd_same,rep_flat]; rfl
        have s6:=s5.trans (u5.trans u6)
        have n6:H' l6=none:=same_none (s5.trans u5) m6
        refine ⟨s'.trans s6,rs ++ [l6],by rw [List.map_append]; rfl,by rw [List.length_append,List.length_singleton,hlen],?_,fun r hr=>?_,fun r hr=>?_⟩
        · rw [List.nodup_append]
          refine ⟨hnd,by simp,fun r hr b hb=>?_⟩
          rw [List.mem_singleton.mp hb]
          obtain ⟨zs,e1,_⟩:=hrow r hr
          exact ne_of_none e1 n6
        · rcases List.mem_append.mp hr with hr | hr
          · exact hnew r hr
          · rw [List.mem_singleton.mp hr]; exact same_none s' n6
        · rcases List.mem_append.mp hr with hr | hr
          · obtain ⟨zs,e1,e2⟩:=hrow r hr
            exact ⟨zs,s6 _ _ e1,e2.st (same_st s6)⟩
          · rw [List.mem_singleton.mp hr]
            exact ⟨_,z6,IsVec.rep (w5.same (u5.trans u6)) ((sm_zero kd ok).mono (by decide))⟩
      · rintro ys H' ⟨s',rs,rfl,hlen,hnd,hnew,hrow⟩ rl nrl
        rw [Int.toNat_natCast] at hlen
        have u1:=same_one (o:=.lst (rs.map V.ref)) nrl
        refine kk _ _ ⟨rl,rs,rfl,s'.trans u1,hnew,same_none s' nrl,upd_same,hlen,hnd,fun z=>?_,fun i r hi=>?_⟩
        · obtain ⟨zs,e1,_⟩:=hrow rl z
          rw [nrl] at e1; cases e1
        · obtain ⟨zs,e1,e2⟩:=hrow r (List.mem_of_getElem? hi)
          exact ⟨zs,u1 _ _ e1,e2.st (same_st u1)⟩
    rintro σ H1 ⟨rl,rs,rfl,s1,hnew,nrl,M1⟩
    refine ⟨_,rfl,(),np,dx,_,rfl,s1 _ _ hx,rfl,np,kp,tp,kd,n,xs,_,rfl,N.same s1,fun l2 nl2=>?_⟩
    have u2:=same_one (o:=.lst xs) nl2
    have M2:=M1.same u2
    have s2:=s1.trans u2
    have nl2H:H l2=none:=same_none s1 nl2
    refine ⟨l2,rfl,⟨xs,SqL.of upd_same⟩,for_list (xs:=xs) (fun j σ H'=>∃ (o3 o4:Option V),σ=[some (.ref np),some (.ref kp),some (.ref rl),o3,o4]∧Same H H'∧H' l2=some (.lst xs)∧IsMat H' kd n rl rs (fun i=>stepV (ks kd ok) (es.take j) (unitV (ks kd ok) i)))
      ⟨_,_,rfl,s2,upd_same,M2.eq fun i j _ _=>rfl⟩ (fun j σ H' _ ⟨_,_,_,_,h,_⟩=>SqL.of h) ?_ ?_⟩
    · rintro j x σ H' ex ⟨o3,o4,rfl,s',h2,M'⟩
      have hj:j < es.length:=by have:=(List.getElem?_eq_some_iff.mp ex).1; omega
      have ee:es[j]?=some es[j]:=List.getElem?_eq_getElem hj
      obtain ⟨r,er,pr,wv,rfl,f2,f3⟩:=pget N.rds ex
      rw [List.getElem?_map,ee] at er
      obtain rfl:Edge.road kd es[j]=r:=Option.some.inj er
      obtain ⟨g1,g2⟩:=G.ends es[j] (List.getElem_mem hj)
      have sme:=G.sm es[j] (List.getElem_mem hj)
      generalize es[j]=e at ee f2 f3 g1 g2 sme
      have t7:=s' _ _ f2
      obtain ⟨ra,ys,e1,e2,e3,e4⟩:=mat_at M' g1
      obtain ⟨vg,eg,wg,sg⟩:=e4.2 e.t g2
      refine ⟨_,rfl,_,rfl,pr,_,_,_,rfl,rfl,SqT.of t7,rfl,rl,_,_,_,rfl,rfl,SqL.of M'.top,e2,?_⟩
      refine ⟨_,rfl,⟨kd,hK⟩,kp,kdx,_,rfl,s' _ _ hk,kfs_no _ (by decide +kernel),_,rfl,_,rfl,pr,_,_,_,rfl,rfl,SqT.of t7,rfl,ra,_,_,_,rfl,rfl,SqL.of e3,atI_nat eg,_,rfl,pr,_,_,_,rfl,rfl,SqT.of t7,rfl,?_⟩
      refine ⟨kp,vg,wv,ok,_,e.c,rfl,⟨kdx,s' _ _ hk⟩,wg,f3.same s',sg.mono (by decide),sme.mono (by decide),fun v8 H8 s8 w8=>?_⟩
      have M8:=M'.same s8
      have e38:=s8 _ _ e3
      refine ⟨_,rfl,_,rfl,pr,_,_,_,rfl,rfl,SqT.of (s8 _ _ t7),rfl,ra,_,_,e.t,rfl,rfl,e38,(by rw [e4.1]; exact ixN_nat g2),?_⟩
      have nra:H ra=none:=hnew ra (List.mem_of_getElem? e1)
      have l2ra:l2≠ra:=fun z=>by
        have:=M1.row e.f ra e1
        obtain ⟨zs,q1,_⟩:=this
        rw [← z,nl2] at q1; cases q1
      have sadd:=G.sum (j + 1) e.f e.t
      have ev:∀ i b,stepV (ks kd ok) (es.take (j + 1)) (unitV (ks kd ok) i) b=if i=e.f∧b=e.t then (ks kd ok).add (stepV (ks kd ok) (es.take j) (unitV (ks kd ok) i) b) e.c else stepV (ks kd ok) (es.take j) (unitV (ks kd ok) i) b:=fun i b=>by
        rw [stepV_take ee]
        unfold unitV KSR.when
        by_cases c1:b=e.t
        · rw [if_pos c1]
          by_cases c2:i=e.f
          · rw [if_pos (show i=e.f∧b=e.t from ⟨c2,c1⟩),if_pos c2.symm,(ks kd ok).one_mul]
          · rw [if_neg (show ¬ (i=e.f∧b=e.t) from fun z=>c2 z.1),if_neg (Ne.symm c2),(ks kd ok).zero_mul,(ks kd ok).add_zero]
        · rw [if_neg c1,if_neg (show ¬ (i=e.f∧b=e.t) from fun z=>c1 z.2)]
      have sadd2:Sm TB (enc kd ((ks kd ok).add (stepV (ks kd ok) (es.take j) (unitV (ks kd ok) e.f) e.t) e.c)):=by
        have z:stepV (ks kd ok) (es.take (j + 1)) (unitV (ks kd ok) e.f) e.t=(ks kd ok).add (stepV (ks kd ok) (es.take j) (unitV (ks kd ok) e.f) e.t) e.c:=(ev e.f e.t).trans (if_pos ⟨rfl,rfl⟩)
        rw [z] at sadd; exact sadd.mono (by decide)
      refine ⟨_,_,rfl,same_upd (s'.trans s8) nra,by rw [upd_ne l2ra]; exact s8 _ _ h2,(M8.set (t:=e.t) e1 e38 w8 sadd2).eq fun i b _ _=>?_⟩
      rw [ev]
      by_cases c:i=e.f∧b=e.t
      · rw [if_pos c,if_pos c,c.1,c.2]
      · rw [if_neg c,if_neg c]
    · rintro σ H' ⟨o3,o4,rfl,s',h2,M'⟩
      rw [hl,List.take_length] at M'
      exact ⟨_,rfl,q rl rs H' s' M'⟩
def spLed (a:Adr):Sp:=fun vs H Q E=>∃ (kp rl:Addr) (kd:Kd) (ok:KdOk kd) (n k:Nat) (rs:List Addr) (A:Mat (Car kd)),vs=[.ref kp,.ref rl,.int (k:Int)]∧KindAt a H kp kd∧HasK kd∧n≤8∧k < n∧IsMat H kd n rl rs A ∧
  (∀ r,(ks kd ok).star (A k k)=some r→∀ i j,i < n→j < n→Sm TB (enc kd (ledA (ks kd ok) A k r i j)))∧((ks kd ok).star (A k k)=none→∀ H',Same H H'→E (.ref a.cNoSum) none H') ∧
  (∀ r,(ks kd ok).star (A k k)=some r→∀ rl' rs' H',Same H H'→H rl'=none→(∀ b∈rs',H b=none)→IsMat H' kd n rl' rs' (ledA (ks kd ok) A k r)→Q (.ref rl') H')
theorem sc_led_through:FnScope ["kind","rows","middle","onward","ring","led","row","toward"] ["kind","rows","middle"] (defScope (top 39)):=⟨rfl,rfl,rfl,by decide +kernel,rfl,by decide +kernel,by decide +kernel⟩
theorem d_led (T:Tx K mg a) (V_rounds:Mth P w K mg base 36 a.cl "rounds" ["self","one"] (fun i=>spStar a i.1)) (V_together:Mth P w K mg base 35 a.cl "together" ["self","one","other"] (fun i=>spAdd a i.1)) (V_behind:Mth P w K mg base 35 a.cl "behind" ["self","one","other"] (fun i=>spMul a i.1))
    (F:DefAt K mg "led_through" (top 39)):Dn P w K mg base 37 "led_through" ["kind","rows","middle"] (spLed a):=by
  obtain ⟨f,fd,hm,F⟩:=F.ex
  refine ⟨f,fd,hm,F.kp,F.binds fun _ _ _ _ _ _ us hl=>match us,hl with | [_,_,_],_=>rfl,?_⟩
  refine F.okX sc_led_through (fun vs H Q E h=>?_) (fun cdv A outer s H vs Q E hr h=>?_)
  · obtain ⟨_,_,_,_,_,_,_,_,rfl,_⟩:=h
    rfl
  · obtain ⟨kp,rl,kd,ok,n,k,rs,A,rfl,⟨kdx,hk⟩,hK,n8,hkn,MA,hsm,e,q⟩:=h
    refine ⟨_,(pss_cons (ps_set (i:=3) sc_led_through.nd rfl (Or.inr rfl) (pe_ix ix_list (pv 1) (pv 2) (fun _ _=>rfl)))
      (pss_cons (ps_set (i:=4) sc_led_through.nd rfl (Or.inl rfl) (pe_methV (pv 0) V_rounds (hr.mono (by decide)) pass_cx (pa_cons (hs:=st_Subscript) (pe_ix ix_list (pv 3) (pv 2) (fun _ _=>rfl)) pa_nil)))
      (pss_cons (ps_set (i:=5) sc_led_through.nd rfl (Or.inl rfl) (pe_lst pa_nil))
      (pss_cons (ps_for own_cx rfl (pi_list (pv 1)) (pg_name (i:=6) sc_led_through.nd rfl (Or.inl rfl)) (pss_cons (ps_set (i:=7) sc_led_through.nd rfl (Or.inr rfl) (pe_methV (pv 0) V_behind (hr.mono (by decide)) pass_cx (pa_cons (hs:=st_Subscript) (pe_ix ix_list (pv 6) (pv 2) (fun _ _=>rfl)) (pa_cons (hs:=st_Name) (pv 4) pa_nil))))
      (pss_one (ps_expr (pe_bm PySem.F.plainAttrs_list PySem.F.slot_list_append PySem.F.type_list_append mt_append (pv 5) (pa_cons (hs:=st_ListComp) (pe_comp (N:=["kind","rows","middle","onward","ring","led","row","toward"]) (osc:=defScope (top 39)) (k:=2) (N':=["at","worth","kind","toward","onward"]) (fr:=[0,7,3]) ⟨rfl,by decide +kernel,by decide +kernel,by decide +kernel,rfl,by decide +kernel,by decide +kernel⟩ rfl rfl rfl (pi_enum rfl T.b_enumerate (pa_cons (hs:=st_Name) (pv 6) pa_nil)) (fun ca=>⟨(pg_tup rfl (pgs_cons (pg_name (i:=0) (show List.Nodup (["at","worth","kind","toward","onward"]:List Str) from by decide +kernel) rfl (Or.inl rfl)) (pgs_cons (pg_name (i:=1) (show List.Nodup (["at","worth","kind","toward","onward"]:List Str) from by decide +kernel) rfl (Or.inl rfl)) pgs_nil))),pts_nil,(pe_methV (pv 2) V_together (hr.mono (by decide)) passE0 (pa_cons (hs:=st_Name) (pv 1) (pa_cons (hs:=st_Call) (pe_methV (pv 2) V_behind (hr.mono (by decide)) passE0 (pa_cons (hs:=st_Name) (pv 3) (pa_cons (hs:=st_Subscript) (pe_ix ix_list (pv 4) (pv 0) (fun _ _=>rfl)) pa_nil))) pa_nil)))⟩)) pa_nil))))))
      (pss_one (ps_ret (pv 5))))))),?_⟩
    obtain ⟨ra,ya,a1,a2,a3,a4⟩:=mat_at MA hkn
    obtain ⟨vk,ek,wk,sk⟩:=a4.2 k hkn
    refine ⟨_,rfl,_,rfl,rl,_,_,_,rfl,rfl,SqL.of MA.top,a2,?_⟩
    refine ⟨_,rfl,⟨kd,hK⟩,kp,kdx,_,rfl,hk,kfs_no _ (by decide +kernel),_,rfl,_,rfl,ra,_,_,_,rfl,rfl,SqL.of a3,atI_nat ek,?_⟩
    refine ⟨kp,vk,ok,_,rfl,⟨kdx,hk⟩,wk,sk.mono (by decide),fun r hr vr H1 s1 w1=>?_,e⟩
    have sr:=sm_star sk hr
    have q:=q r hr
    have hsm:=hsm r hr
    refine ⟨(by show 0≤sizeLine; decide),fun ll nll=>?_⟩
    have u2:=same_one (o:=.lst []) nll
    have s2:=s1.trans u2
    have M2:=MA.same s2
    have w2:=w1.same u2
    have nllH:H ll=none:=same_none s1 nll
    have z2:=upd_same (H:=H1) (a:=ll) (o:=.lst [])
    generalize upd H1 ll (.lst [])=H2 at u2 s2 M2 w2 z2
    have hrl:(rs.map V.ref).length=n:=by rw [List.length_map]; exact MA.len
    refine ⟨_,rfl,rl,rfl,⟨_,SqL.of M2.top⟩,for_list (xs:=rs.map V.ref) (fun i σ H'=>∃ (ts:List Addr) (o6 o7:Option V),σ=[some (.ref kp),some (.ref rl),some (.int (k:Int)),some (.ref ra),some vr,some (.ref ll),o6,o7]∧Same H H'∧IsW H' vr (enc kd r)∧H' ll=some (.lst (ts.map V.ref))∧ts.length=i∧ts.Nodup∧(∀ b∈ts,H b=none∧b≠ll)∧∀ j b,ts[j]?=some b→∃ zs,H' b=some (.lst zs)∧IsVec H' kd TB n zs (ledA (ks kd ok) A k r j))
      ⟨[],_,_,rfl,s2,w2,z2,rfl,List.nodup_nil,(fun b hb=>by cases hb),(fun j b hb=>by cases hb)⟩ (fun i σ H' _ ⟨_,_,_,_,s',_⟩=>SqL.of (s' _ _ MA.top)) ?_ ?_⟩
    · rintro i x σ H' ex ⟨ts,o6,o7,rfl,s',wr,hll,htl,hnd,hnew,hts⟩
      have hi:i < n:=by have:=(List.getElem?_eq_some_iff.mp ex).1; omega
      obtain ⟨rb,yb,b1,b2,b3,b4⟩:=mat_at MA hi
      obtain rfl:V.ref rb=x:=by
        rw [List.getElem?_map,b1] at ex; exact Option.some.inj ex
      obtain ⟨vb,eb,wb,sb⟩:=b4.2 k hkn
      have b3':=s' _ _ b3
      refine ⟨_,rfl,⟨kd,hK⟩,kp,kdx,_,rfl,s' _ _ hk,kfs_no _ (by decide +kernel),_,rfl,_,rfl,rb,_,_,_,rfl,rfl,SqL.of b3',atI_nat eb,_,rfl,?_⟩
      refine ⟨kp,vb,vr,ok,_,r,rfl,⟨kdx,s' _ _ hk⟩,wb.same s',wr,sb.mono (by decide),sr.mono (by decide),fun vt H3 s3 w3=>?_⟩
      have s03:=s'.trans s3
      have st:=sm_mul (ok:=ok) sb sr
      have b33:=s03 _ _ b3
      refine ⟨_,rfl,.inl ⟨rfl,_,SqL.of (s3 _ _ hll)⟩,?_⟩
      refine ⟨_,rfl,rb,rfl,⟨yb,SqL.of b33⟩,comp_enum (xs:=yb) (fun j zs H4=>Same H3 H4∧zs.length=j∧∀ b,b < j→∃ v,zs[b]?=some v∧IsW H4 v (enc kd (ledA (ks kd ok) A k r i b))) (lines (by rw [b4.1]; omega)) ⟨Same.refl H3,rfl,fun b hb=>absurd hb (Nat.not_lt_zero b)⟩ (fun j zs H4 _ ⟨s4,_⟩=>SqL.of (s4 _ _ b33)) ?_ ?_⟩
      · rintro j x zs H4 p exj ⟨s4,hzl,hz⟩ np ca
        have hj:j < n:=by have:=(List.getElem?_eq_some_iff.mp exj).1; rw [b4.1] at this; exact this
        obtain ⟨vj,ej,wj,sj⟩:=b4.2 j hj
        rw [ej] at exj
        obtain rfl:=Option.some.inj exj
        obtain ⟨vo,eo,wo,so⟩:=a4.2 j hj
        have u5:=same_one (o:=.tup [.int (j:Nat),vj]) np
        have s05:=(s03.trans s4).trans u5
        refine ⟨p,_,rfl,SqT.of upd_same,rfl,_,_,rfl,_,_,rfl,rfl,?_⟩
        refine ⟨⟨rfl,rfl⟩,?_⟩
        refine ⟨_,rfl,⟨kd,hK⟩,kp,kdx,_,rfl,s05 _ _ hk,kfs_no _ (by decide +kernel),_,rfl,_,rfl,⟨kd,hK⟩,kp,kdx,_,rfl,s05 _ _ hk,kfs_no _ (by decide +kernel),_,rfl,_,rfl,_,rfl,ra,_,_,_,rfl,rfl,SqL.of (s05 _ _ a3),atI_nat eo,?_⟩
        refine ⟨kp,vt,vo,ok,_,_,rfl,⟨kdx,s05 _ _ hk⟩,(w3.same s4).same u5,wo.same s05,st.mono (by decide),so.mono (by decide),fun vm H6 s6 w6=>?_⟩
        have sm:=sm_mul (ok:=ok) st so
        refine ⟨kp,vj,vm,ok,_,_,rfl,⟨kdx,(s05.trans s6) _ _ hk⟩,wj.same (s05.trans s6),w6,sj.mono (by decide),sm.mono (by decide),fun vf H7 s7 w7=>?_⟩
        have s47:=(u5.trans s6).trans s7
        refine ⟨s4.trans s47,by rw [List.length_append,List.length_singleton,hzl],fun b hb=>?_⟩
        by_cases c:b < j
        · obtain ⟨v,e1,e2⟩:=hz b c
          exact ⟨v,by rw [List.getElem?_append_left (by omega)]; exact e1,e2.same s47⟩
        · obtain rfl:b=j:=by omega
          exact ⟨vf,by rw [List.getElem?_append_right (by omega),hzl]; simp,w7⟩
      · rintro zs H4 ⟨s4,hzl,hz⟩ lz nlz
        rw [b4.1] at hzl hz
        have u5:=same_one (o:=.lst zs) nlz
        have s35:=s4.trans u5
        have hll5:=s35 _ _ (s3 _ _ hll)
        refine ⟨ll,_,_,rfl,rfl,hll5,lines (by rw [List.length_map]; omega),?_⟩
        have nlzH:H lz=none:=same_none (s03.trans s4) nlz
        have lzne:lz≠ll:=fun z=>by
          have:=s4 _ _ (s3 _ _ hll)
          rw [← z,nlz] at this; cases this
        have stp:=(same_st (s3.trans s35)).trans (stup_lst (o:=.lst (ts.map V.ref ++ [V.ref lz])) hll5)
        refine ⟨ts ++ [lz],_,_,rfl,same_upd (s03.trans s35) nllH,wr.st stp,by rw [upd_same,List.map_append]; rfl,by rw [List.length_append,List.length_singleton,htl],?_,fun b hb=>?_,fun j b hb=>?_⟩
        · rw [List.nodup_append]
          refine ⟨hnd,by simp,fun b hb c hc=>?_⟩
          rw [List.mem_singleton.mp hc]
          obtain ⟨j,hj⟩:=List.getElem?_of_mem hb
          obtain ⟨zs',q1,_⟩:=hts j b hj
          exact ne_of_none (s4 _ _ (s3 _ _ q1)) nlz
        · rcases List.mem_append.mp hb with hb | hb
          · exact hnew b hb
          · rw [List.mem_singleton.mp hb]; exact ⟨nlzH,lzne⟩
        · by_cases c:j < ts.length
          · rw [List.getElem?_append_left c] at hb
            obtain ⟨zs',q1,q2⟩:=hts j b hb
            have nb:=(hnew b (List.mem_of_getElem? hb)).2
            exact ⟨zs',by rw [upd_ne nb]; exact s35 _ _ (s3 _ _ q1),q2.st stp⟩
          · rw [List.getElem?_append_right (by omega)] at hb
            have hj0:j - ts.length=0:=by
              have:=(List.getElem?_eq_some_iff.mp hb).1
              rw [List.length_singleton] at this; omega
            rw [hj0] at hb
            obtain rfl:lz=b:=Option.some.inj hb
            obtain rfl:j=i:=by omega
            refine ⟨zs,by rw [upd_ne lzne]; exact upd_same,hzl,fun b hb=>?_⟩
            obtain ⟨v,q1,q2⟩:=hz b hb
            exact ⟨v,q1,(q2.same u5).st (stup_lst hll5),hsm j b hi hb⟩
    · rintro σ H' ⟨ts,o6,o7,rfl,s',wr,hll,htl,hnd,hnew,hts⟩
      rw [hrl] at htl
      exact ⟨_,rfl,q ll ts H' s' nllH (fun b hb=>(hnew b hb).1) ⟨hll,htl,hnd,fun z=>(hnew ll z).2 rfl,hts⟩⟩
def spTable (a:Adr):Sp:=fun vs H Q E=>∃ (np kp tp:Addr) (kd:Kd) (ok:KdOk kd) (n:Nat) (xs:List V) (es:List (Edge (Car kd))),vs=[.ref np]∧NetIs a H np kd n kp tp xs (es.map (Edge.road kd))∧HasK kd∧GrT kd ok n es∧TFT kd ok es n∧0 < n ∧
  (stageA (ks kd ok) (edgeM (ks kd ok) es) n=none→∀ H',Same H H'→E (.ref a.cNoSum) none H') ∧
  (∀ A,stageA (ks kd ok) (edgeM (ks kd ok) es) n=some A→∀ rl rs H',Same H H'→H rl=none→(∀ b∈rs,H b=none)→IsMat H' kd n rl rs (tabA (ks kd ok) A)→Q (.ref rl) H')
theorem sc_table:FnScope ["net","kind","rows","place"] ["net"] (defScope (top 40)):=⟨rfl,rfl,rfl,by decide +kernel,rfl,by decide +kernel,by decide +kernel⟩
theorem d_table (T:Tx K mg a) (V_kind:Mth P w K mg base 1 (fun _:Unit=>a.cNet) "kind" ["self"] (fun _=>spNKind a)) (V_places:Mth P w K mg base 1 (fun _:Unit=>a.cNet) "places" ["self"] (fun _=>spNPlaces a)) (V_rest:Mth P w K mg base 1 a.cl "rest" ["self"] (fun i=>spOne a i.1)) (V_together:Mth P w K mg base 35 a.cl "together" ["self","one","other"] (fun i=>spAdd a i.1))
    (D_straight:Dn P w K mg base 36 "straight" ["net"] (spStraight a)) (D_led_through:Dn P w K mg base 37 "led_through" ["kind","rows","middle"] (spLed a)) (F:DefAt K mg "table" (top 40)):Dn P w K mg base 38 "table" ["net"] (spTable a):=by
  obtain ⟨f,fd,hm,F⟩:=F.ex
  refine ⟨f,fd,hm,F.kp,F.binds fun _ _ _ _ _ _ us hl=>match us,hl with | [_],_=>rfl,?_⟩
  refine F.okX sc_table (fun vs H Q E h=>?_) (fun cdv A outer s H vs Q E hr h=>?_)
  · obtain ⟨_,_,_,_,_,_,_,_,rfl,_⟩:=h
    rfl
  · obtain ⟨np,kp,tp,kd,ok,n,xs,es,rfl,N,hK,G,TF,n0,e,q⟩:=h
    refine ⟨_,(pss_cons (ps_set (i:=1) sc_table.nd rfl (Or.inl rfl) (pe_methV0 (pv 0) V_kind (hr.mono (by decide)) pass_cx))
      (pss_cons (ps_set (i:=2) sc_table.nd rfl (Or.inl rfl) (pe_callD D_straight (hr.mono (by decide)) rfl pass_cx (pa_cons (hs:=st_Name) (pv 0) pa_nil)))
      (pss_cons (ps_for own_cx rfl (pi_range1 rfl T.b_range (pa_cons (hs:=st_Call) (pe_methV0 (pv 0) V_places (hr.mono (by decide)) pass_cx) pa_nil)) (pg_name (i:=3) sc_table.nd rfl (Or.inl rfl)) (pss_one (ps_set (i:=2) sc_table.nd rfl (Or.inl rfl) (pe_callD D_led_through (hr.mono (by decide)) rfl pass_cx (pa_cons (hs:=st_Name) (pv 1) (pa_cons (hs:=st_Name) (pv 2) (pa_cons (hs:=st_Name) (pv 3) pa_nil)))))))
      (pss_cons (ps_for own_cx rfl (pi_range1 rfl T.b_range (pa_cons (hs:=st_Call) (pe_methV0 (pv 0) V_places (hr.mono (by decide)) pass_cx) pa_nil)) (pg_name (i:=3) sc_table.nd rfl (Or.inl rfl)) (pss_one (ps_asg (pe_methV (pv 1) V_together (hr.mono (by decide)) pass_cx (pa_cons (hs:=st_Call) (pe_methV0 (pv 1) V_rest (hr.mono (by decide)) pass_cx) (pa_cons (hs:=st_Subscript) (pe_ix ix_list (pe_ix ix_list (pv 2) (pv 3) (fun _ _=>rfl)) (pv 3) (fun _ _=>rfl)) pa_nil))) (pg_sub (pe_ix ix_list (pv 2) (pv 3) (fun _ _=>rfl)) (pv 3) set_list))))
      (pss_one (ps_ret (pv 2))))))),?_⟩
    obtain ⟨dx,hx⟩:=N.ins
    obtain ⟨kdx,hk⟩:=N.kind
    have nb:=G.nb
    refine ⟨_,rfl,(),np,dx,_,rfl,hx,rfl,np,kp,tp,kd,n,xs,_,rfl,N,?_⟩
    refine ⟨_,rfl,np,kp,tp,kd,ok,n,xs,es,rfl,N,hK,G,fun rl0 rs0 H1 s1 M1=>?_⟩
    dsimp only [gName]
    refine seqK (fun σ H'=>∃ rl rs A o3,σ=[some (.ref np),some (.ref kp),some (.ref rl),o3]∧Same H H'∧(n=0∨(H rl=none∧∀ b∈rs,H b=none))∧stageA (ks kd ok) (edgeM (ks kd ok) es) n=some A∧IsMat H' kd n rl rs A) (fun nx kk=>?_) ?_
    · refine ⟨_,rfl,(),np,dx,_,rfl,s1 _ _ hx,rfl,np,kp,tp,kd,n,xs,_,rfl,N.same s1,(n:Int),rfl,by omega,by omega,for_range (n:=(n:Int).toNat) (fun i σ H'=>∃ rl rs A o3,σ=[some (.ref np),some (.ref kp),some (.ref rl),o3]∧Same H H'∧(i=0∨(H rl=none∧∀ b∈rs,H b=none))∧stageA (ks kd ok) (edgeM (ks kd ok) es) i=some A∧IsMat H' kd n rl rs A) ⟨rl0,rs0,_,_,rfl,s1,.inl rfl,rfl,M1⟩ ?_ ?_⟩
      · rintro i σ H' hi ⟨rl,rs,A,o3,rfl,s',hnew,hst,MA⟩
        have hi:i < n:=by omega
        have ei:(0 + (i:Int))=((i:Nat):Int):=by omega
        refine ⟨_,rfl,_,rfl,_,rfl,kp,rl,kd,ok,n,i,rs,A,(by rw [ei]),⟨kdx,s' _ _ hk⟩,hK,nb,hi,MA,fun r hr b c hb hc=>(TF (i + 1) hi _ (stage_succ (ks kd ok) hst hr) b c hb hc).mono (by decide),fun hr H2 s2=>e (stage_none (ks kd ok) (show i + 1≤n from hi) (stage_fail (ks kd ok) hst hr)) H2 (s'.trans s2),fun r hr rl' rs' H2 s2 n1 n2 M2=>?_⟩
        exact ⟨rl',rs',_,_,rfl,s'.trans s2,.inr ⟨same_none s' n1,fun b hb=>same_none s' (n2 b hb)⟩,stage_succ (ks kd ok) hst hr,M2⟩
      · rintro σ H' ⟨rl,rs,A,o3,rfl,s',hnew,hst,MA⟩
        rw [Int.toNat_natCast] at hst hnew
        exact kk _ _ ⟨rl,rs,A,_,rfl,s',hnew,hst,MA⟩
    rintro σ H2 ⟨rl,rs,A,o3,rfl,s2,hnew,hst,MA⟩
    have smA:=TF n (Nat.le_refl n) A hst
    have hnew:=hnew.resolve_left (by omega)
    refine ⟨_,rfl,(),np,dx,_,rfl,s2 _ _ hx,rfl,np,kp,tp,kd,n,xs,_,rfl,N.same s2,(n:Int),rfl,by omega,by omega,for_range (n:=(n:Int).toNat) (fun i σ H'=>∃ o3,σ=[some (.ref np),some (.ref kp),some (.ref rl),o3]∧Same H H'∧IsMat H' kd n rl rs (fun b c=>if b < i then tabA (ks kd ok) A b c else A b c)) ⟨_,rfl,s2,MA.eq fun b c _ _=>(if_neg (Nat.not_lt_zero b)).symm⟩ ?_ ?_⟩
    · rintro i σ H' hi ⟨o3,rfl,s',MI⟩
      have hi:i < n:=by omega
      have ei:(0 + (i:Int))=((i:Nat):Int):=by omega
      obtain ⟨ra,ya,a1,a2,a3,a4⟩:=mat_at MI hi
      obtain ⟨vi,evi,wvi,svi⟩:=a4.2 i hi
      dsimp only at wvi svi
      rw [if_neg (Nat.lt_irrefl i)] at wvi svi
      refine ⟨_,rfl,⟨kd,hK⟩,kp,kdx,_,rfl,s' _ _ hk,kfs_no _ (by decide +kernel),_,rfl,⟨kd,hK⟩,kp,kdx,_,rfl,s' _ _ hk,kfs_no _ (by decide +kernel),kp,ok,rfl,⟨kdx,s' _ _ hk⟩,fun vo H3 s3 w3=>?_⟩
      refine ⟨_,rfl,_,rfl,rl,_,_,_,rfl,rfl,SqL.of (s3 _ _ MI.top),(by rw [ei]; exact a2),_,rfl,ra,_,_,_,rfl,rfl,SqL.of (s3 _ _ a3),(by rw [ei]; exact atI_nat evi),?_⟩
      refine ⟨kp,vo,vi,ok,_,_,rfl,⟨kdx,(s'.trans s3) _ _ hk⟩,w3,wvi.same s3,(sm_one kd ok).mono (by decide),svi.mono (by decide),fun v4 H4 s4 w4=>?_⟩
      have s34:=s3.trans s4
      have M4:=MI.same s34
      have a34:=s34 _ _ a3
      refine ⟨_,rfl,_,rfl,rl,_,_,_,rfl,rfl,SqL.of M4.top,(by rw [ei]; exact a2),_,rfl,ra,_,_,i,rfl,rfl,a34,(by rw [a4.1,ei]; exact ixN_nat hi),?_⟩
      have sx:Sm TB (enc kd ((ks kd ok).add (ks kd ok).one (A i i))):=(sm_add (ok:=ok) (sm_one kd ok) (smA i i hi hi)).mono (by decide)
      refine ⟨_,rfl,same_upd (s'.trans s34) (hnew.2 ra (List.mem_of_getElem? a1)),(M4.set (t:=i) a1 a34 w4 sx).eq fun b c _ _=>?_⟩
      dsimp only
      by_cases h1:b < i
      · rw [if_neg (fun z=>by omega),if_pos h1,if_pos (by omega)]
      · rw [if_neg h1]
        by_cases h2:b=i
        · subst h2
          rw [if_pos (Nat.lt_succ_self b)]
          unfold tabA
          by_cases h3:b=c
          · subst h3
            rw [if_pos ⟨rfl,rfl⟩,if_pos rfl]
          · rw [if_neg (fun z=>h3 z.2.symm),if_neg h3]
        · rw [if_neg (fun z=>h2 z.1),if_neg (by omega)]
    · rintro σ H' ⟨o3,rfl,s',MI⟩
      rw [Int.toNat_natCast] at MI
      exact ⟨_,rfl,q A hst rl rs H' s' hnew.1 hnew.2 (MI.eq fun b c hb _=>if_pos hb)⟩
end
end K13
namespace K13
open PySem L2 Ws
section
variable {P : Program} {w : World} {K : PySem.W.Frag} {mg : Str → Option Value} {base : Heap} {a : Adr}
theorem star_none {kd:Kd} {ok:KdOk kd} {x:Car kd} (h:(ks kd ok).star x=none):kd=.chances:=by
  cases kd <;> first | rfl | cases h
end
end K13
namespace K13
open PySem L2 Ws
seal PE PT PW PA PC PS PSs PG PGs PI PO
section
variable {P : Program} {w : World} {K : PySem.W.Frag} {mg : Str → Option Value} {base : Heap} {a : Adr}
def DueIs (H:Hp) (v:V) (kd:Kd):Option (Car kd)→Prop
  | some s=>IsW H v (enc kd s)
  | none=>v=.non
def spLRnd:Sp:=fun vs H Q _=>∃ (kd:Kd) (ok:KdOk kd) (m:Int) (v:V) (x:Car kd),vs=[.int (kno kd),.int m,v]∧MIs kd m∧IsW H v (enc kd x)∧Sm Big (enc kd x) ∧
  ∀ v' H',Same H H'→DueIs H' v' kd ((ks kd ok).star x)→Q v' H'
theorem sc_law_rounds:FnScope ["which","m","one","found","k"] ["which","m","one"] (defScope (top 55)):=⟨rfl,rfl,rfl,by decide +kernel,rfl,by decide +kernel,by decide +kernel⟩
theorem kno_0 (kd:Kd):0≤kno kd:=by cases kd <;> first | decide | (show (0:Int)≤6; decide)
theorem kno_7 (kd:Kd):kno kd < 7:=by cases kd <;> first | decide | (show (6:Int) < 7; decide)
theorem kno_lt {kd:Kd} (h:∀ m,kd≠.rests m):kno kd < 6:=by
  cases kd <;> first | decide | exact absurd rfl (h _)
theorem d_rounds (T:Tx K mg a) (D_law_share:Dn P w K mg base 33 "_law_share" ["top","below"] spShare) (D_law_rest:Dn P w K mg base 1 "_law_rest" ["which"] spRest) (D_law_beh:Dn P w K mg base 34 "_law_beh" ["which","m","one","other"] spLBeh)
    (F:DefAt K mg "_law_rounds" (top 55)):Dn P w K mg base 35 "_law_rounds" ["which","m","one"] spLRnd:=by
  obtain ⟨f,fd,hm,F⟩:=F.ex
  refine ⟨f,fd,hm,F.kp,F.binds fun _ _ _ _ _ _ us hl=>match us,hl with | [_,_,_],_=>rfl,?_⟩
  refine F.okN sc_law_rounds (fun vs H Q E h=>?_) (fun cdv A outer s H vs Q E hr h=>?_)
  · obtain ⟨_,_,_,_,_,rfl,_⟩:=h
    rfl
  · obtain ⟨kd,ok,m,v,x,rfl,hm',h1,s1,q⟩:=h
    refine ⟨_,(pss_cons (ps_if (pt_cmpR op_eq (pv 0) pe_int (nomark _)) (pss_one (ps_ret (pe_ifExp (pt_cmpR op_eq (pv 2) pe_int (nomark _)) pe_int (pe_un un_neg pe_int)))) pss_nil)
      (pss_cons (ps_if (pt_cmpR op_eq (pv 0) pe_int (nomark _)) (pss_one (ps_ret (pe_ifExp (pt_cmpR op_ge (pe_ix ix_tup (pv 2) pe_int (fun _ _=>rfl)) (pe_ix ix_tup (pv 2) pe_int (fun _ _=>rfl)) (nomark _)) pe_non (pe_callD D_law_share (hr.mono (by decide)) rfl passE0 (pa_cons (hs:=st_Subscript) (pe_ix ix_tup (pv 2) pe_int (fun _ _=>rfl)) (pa_cons (hs:=st_BinOp) (pe_op op_sub (pe_ix ix_tup (pv 2) pe_int (fun _ _=>rfl)) (pe_ix ix_tup (pv 2) pe_int (fun _ _=>rfl))) pa_nil)))))) pss_nil)
      (pss_cons (ps_if (pt_cmpR op_lt (pv 0) pe_int (nomark _)) (pss_one (ps_ret (pe_callD D_law_rest (hr.mono (by decide)) rfl passE0 (pa_cons (hs:=st_Name) (pv 0) pa_nil)))) pss_nil)
      (pss_cons (ps_set (i:=3) sc_law_rounds.nd rfl (Or.inl rfl) pe_int)
      (pss_cons (ps_for PassesOwn.never rfl (pi_range1 rfl T.b_range (pa_cons (hs:=st_Name) (pv 1) pa_nil)) (pg_name (i:=4) sc_law_rounds.nd rfl (Or.inl rfl)) (pss_one (ps_set (i:=3) sc_law_rounds.nd rfl (Or.inl rfl) (pe_op op_or (pv 3) (pe_callD D_law_beh (hr.mono (by decide)) rfl passE0 (pa_cons (hs:=st_Constant) pe_int (pa_cons (hs:=st_Name) (pv 1) (pa_cons (hs:=st_Name) (pv 3) (pa_cons (hs:=st_Name) (pv 2) pa_nil)))))))))
      (pss_one (ps_ret (pv 3)))))))),?_⟩
    by_cases pl:(kno kd≠2∧kno kd≠4)∧(∀ n,kd≠.rests n)∧(ks kd ok).star x=some (ks kd ok).one
    · obtain ⟨⟨n2,n4⟩,nr,e⟩:=pl
      refine ⟨_,rfl,rfl,_,rfl,isNo n2 ⟨_,rfl,rfl,_,rfl,isNo n4 ⟨_,rfl,_,_,rfl,rfl,_,rfl,iteD (fun _=>?_) (fun c=>absurd (kno_lt nr) c)⟩⟩⟩
      refine ⟨_,rfl,kno kd,rfl,kno_0 kd,kno_7 kd,fun v' H' s' hv=>q v' H' s' ?_⟩
      rw [e]
      rw [restW_kno kd ok] at hv
      exact hv
    cases kd with
    | fewest=>exact absurd ⟨⟨by decide,by decide⟩,(fun _ z=>nomatch z),rfl⟩ pl
    | widest=>exact absurd ⟨⟨by decide,by decide⟩,(fun _ z=>nomatch z),rfl⟩ pl
    | likeliest=>exact absurd ⟨⟨by decide,by decide⟩,(fun _ z=>nomatch z),rfl⟩ pl
    | musts=>exact absurd ⟨⟨by decide,by decide⟩,(fun _ z=>nomatch z),rfl⟩ pl
    | counted =>
      refine ⟨_,rfl,rfl,_,rfl,isYes ?_⟩
      rcases x with _ | _ | n
      · obtain rfl:=isW_int h1
        exact ⟨_,rfl,rfl,_,rfl,isNo (by decide) ⟨_,rfl,q _ _ (Same.refl H) rfl⟩⟩
      · obtain rfl:=isW_int h1
        exact ⟨_,rfl,rfl,_,rfl,isYes (q _ _ (Same.refl H) rfl)⟩
      · obtain rfl:=isW_int h1
        exact ⟨_,rfl,rfl,_,rfl,isNo (by omega) ⟨_,rfl,q _ _ (Same.refl H) rfl⟩⟩
    | chances =>
      obtain ⟨r1,rfl,e1⟩:=isW_pair h1
      refine ⟨_,rfl,rfl,_,rfl,isNo (by decide) ?_⟩
      refine ⟨_,rfl,rfl,_,rfl,isYes ?_⟩
      refine ⟨_,rfl,r1,_,_,_,rfl,rfl,SqT.of e1,rfl,_,rfl,r1,_,_,_,rfl,rfl,SqT.of e1,rfl,_,_,rfl,rfl,_,rfl,iteD (fun c=>?_) (fun c=>?_)⟩
      · refine q _ _ (Same.refl H) ?_
        have:(ks .chances ok).star x=none:=chances_ge x (fun z=>by have:=lt_one.mpr z; omega)
        rw [this]
        rfl
      · have lt:x.1.num < x.1.den:=by omega
        refine ⟨_,rfl,r1,_,_,_,rfl,rfl,SqT.of e1,rfl,_,rfl,r1,_,_,_,rfl,rfl,SqT.of e1,rfl,_,rfl,r1,_,_,_,rfl,rfl,SqT.of e1,rfl,_,_,rfl,rfl,?_⟩
        refine ⟨_,_,rfl,Int.le_of_lt (den_pos _),by omega,fun v' H' s' hv=>q v' H' s' ?_⟩
        have:(ks .chances ok).star x=some ⟨(1 - x.1)⁻¹,rinv_nonneg (lt_one.mp lt)⟩:=chances_lt x (lt_one.mp lt)
        rw [this]
        rw [inv_shareW lt] at hv
        exact hv
    | rests n =>
      obtain rfl:=isW_int h1
      obtain rfl:m=n:=hm' n rfl
      have o1:1≤n:=ok.1
      have o2:n≤12:=ok.2
      rw [show kno (Kd.rests n)=6 from rfl]
      refine ⟨_,rfl,rfl,_,rfl,isNo (by decide) ?_⟩
      refine ⟨_,rfl,rfl,_,rfl,isNo (by decide) ?_⟩
      refine ⟨_,rfl,_,_,rfl,rfl,_,rfl,iteD (fun z=>absurd z (by decide)) (fun _=>?_)⟩
      refine ⟨_,rfl,(n:Int),rfl,by omega,by omega,?_⟩
      refine for_range (n:=(n:Int).toNat) (fun i σ H'=>Same H H'∧∃ o,σ=[some (.int 6),some (.int n),some (.int x.1),some (.int (rndTo n x.1 i:Nat)),o]) ⟨Same.refl H,none,rfl⟩ ?_ ?_
      · rintro i σ H' hi ⟨sH,o,rfl⟩
        have lk:=rndTo_lt o1 x.2 i
        rw [Int.zero_add]
        refine ⟨_,rfl,_,rfl,_,rfl,_,rfl,?_⟩
        refine ⟨.rests n,ok,(n:Int),_,_,⟨rndTo n x.1 i,lk⟩,x,rfl,fun k z=>by cases z; rfl,rfl,rfl,sm_rests o2 lk,sm_rests o2 x.2,fun v2 H2 s2 hv2=>?_⟩
        obtain rfl:=isW_int hv2
        refine ⟨_,_,rfl,rfl,sH.trans s2,some (V.int (i:Int)),?_⟩
        dsimp only
        rw [bitOr_nat]
        rfl
      · rintro σ H' ⟨sH,o,rfl⟩
        exact ⟨_,rfl,q _ _ sH (by rw [Int.toNat_natCast]; rfl)⟩
end
end K13
namespace K13
open PySem L2 Ws
seal PE PT PW PA PC PS PSs PG PGs PI PO PJ PTs
section
variable {P : Program} {w : World} {K : PySem.W.Frag} {mg : Str → Option Value} {base : Heap} {a : Adr}
def nats (l:List Nat):List V:=l.map fun k:Nat=>V.int (k:Int)
theorem nats_len (l:List Nat):(nats l).length=l.length:=List.length_map ..
theorem filter_lf (p:Nat):∀ k:Nat,((List.range k).filter fun x=>decide (x≠p))=if k≤p then List.range k else (List.range (k - 1)).map (lf p)
  | 0=>by simp
  | k + 1=>by
    rw [List.range_succ,List.filter_append,filter_lf p k]
    by_cases c:k + 1≤p
    · rw [if_pos (by omega),if_pos c,List.filter_cons_of_pos (by simp; omega)]; rfl
    · rw [if_neg c]
      by_cases d:k=p
      · subst d
        rw [if_pos (Nat.le_refl k),List.filter_cons_of_neg (by simp),List.filter_nil,List.append_nil,Nat.add_sub_cancel]
        refine (List.map_id' _).symm.trans (List.map_congr_left fun x hx=>?_)
        exact (if_pos (List.mem_range.mp hx)).symm
      · rw [if_neg (by omega),List.filter_cons_of_pos (by simp; omega),List.filter_nil,Nat.add_sub_cancel]
        obtain ⟨j,rfl⟩:∃ j,k=j + 1:=⟨k - 1,by omega⟩
        rw [Nat.add_sub_cancel,List.range_succ,List.map_append]
        congr 1
        show [j + 1]=[lf p j]
        unfold lf
        rw [if_neg (by omega)]
def lefts (p m:Nat):List V:=nats ((List.range m).map (lf p))
theorem lefts_len (p m:Nat):(lefts p m).length=m:=by unfold lefts; rw [nats_len,List.length_map,List.length_range]
theorem lefts_get {p m i:Nat} (h:i < m):(lefts p m)[i]?=some (V.int (lf p i:Nat)):=by
  unfold lefts nats
  rw [List.getElem?_map,List.getElem?_map,List.getElem?_range h]; rfl
theorem filter_step {p i:Nat}:nats ((List.range (i + 1)).filter fun x=>decide (x≠p))=if i=p then nats ((List.range i).filter fun x=>decide (x≠p)) else nats ((List.range i).filter fun x=>decide (x≠p)) ++ [V.int (i:Int)]:=by
  rw [List.range_succ,List.filter_append]
  by_cases c:i=p
  · rw [if_pos c,List.filter_cons_of_neg (by simpa using c),List.filter_nil,List.append_nil]
  · rw [if_neg c,List.filter_cons_of_pos (by simpa using c),List.filter_nil]
    unfold nats
    rw [List.map_append]; rfl
theorem filter_end {p m:Nat} (h:p < m + 1):nats ((List.range (m + 1)).filter fun x=>decide (x≠p))=lefts p m:=by
  rw [filter_lf,if_neg (by omega)]; rfl
theorem enc_shape {kd:Kd} (x y:Car kd):(∃ a b c d,enc kd x=.pair a b∧enc kd y=.pair c d)∨((∀ a b,enc kd x≠.pair a b)∧(∀ a b,enc kd y≠.pair a b)):=by
  cases kd with
  | likeliest=>exact .inl ⟨_,_,_,_,rfl,rfl⟩
  | chances=>exact .inl ⟨_,_,_,_,rfl,rfl⟩
  | widest=>exact .inr ⟨(fun _ _ h=>nomatch h),(fun _ _ h=>nomatch h)⟩
  | rests n=>exact .inr ⟨(fun _ _ h=>nomatch h),(fun _ _ h=>nomatch h)⟩
  | fewest=>exact .inr ⟨(fun _ _ h=>by cases x <;> cases h),(fun _ _ h=>by cases y <;> cases h)⟩
  | musts=>exact .inr ⟨(fun _ _ h=>by cases x <;> cases h),(fun _ _ h=>by cases y <;> cases h)⟩
  | counted=>exact .inr ⟨(fun _ _ h=>by cases x <;> cases h),(fun _ _ h=>by cases y <;> cases h)⟩
theorem eqV_int (x y:Int):eqV (.int x) (.int y)=decide (x=y):=by
  show (x == y)=_
  rw [Bool.beq_eq_decide_eq]
theorem neD {H:Hp} {v1 v2:V} {kd:Kd} {x y:Car kd} {Q:VK} (h1:IsW H v1 (enc kd x)) (h2:IsW H v2 (enc kd y)) (q:Q (.bl (!decide (enc kd x=enc kd y))) H):rNe v1 v2 H Q∨rNeT K v1 v2 H Q:=by
  rcases enc_shape x y with ⟨c1,c2,c3,c4,e1,e2⟩ | ⟨n1,n2⟩
  · rw [e1] at h1 q
    rw [e2] at h2 q
    obtain ⟨r1,rfl,f1⟩:=isW_pair h1
    obtain ⟨r2,rfl,f2⟩:=isW_pair h2
    refine .inr ⟨r1,r2,_,_,rfl,rfl,SqT.of f1,SqT.of f2,rfl,rfl,?_⟩
    have e:eqVs [V.int c1,V.int c2] [V.int c3,V.int c4]=decide (Wd.pair c1 c2=Wd.pair c3 c4):=by
      show (eqV (.int c1) (.int c3) && (eqV (.int c2) (.int c4) && true))=_
      rw [eqV_int,eqV_int,Bool.and_true,← Bool.decide_and]
      exact decide_eq_decide.mpr ⟨fun h=>by rw [h.1,h.2],fun h=>by cases h; exact ⟨rfl,rfl⟩⟩
    rw [e]; exact q
  · refine .inl ?_
    generalize enc kd x=X at h1 q n1
    generalize enc kd y=Y at h2 q n2
    have fin:∀ {v1 v2:V},(v1=v2 ↔ X=Y)→scal v1 v2=true→rNe v1 v2 H Q:=fun {v1 v2} hh hs=>⟨hs,by rw [show decide (v1=v2)=decide (X=Y) from decide_eq_decide.mpr hh]; exact q⟩
    cases X with
    | pair c1 c2=>exact absurd rfl (n1 c1 c2)
    | non =>
      obtain rfl:=isW_non h1
      cases Y with
      | pair c1 c2=>exact absurd rfl (n2 c1 c2)
      | non=>obtain rfl:=isW_non h2; exact fin ⟨fun _=>rfl,fun _=>rfl⟩ rfl
      | int j=>obtain rfl:=isW_int h2; exact fin ⟨(fun h=>nomatch h),(fun h=>nomatch h)⟩ rfl
    | int i =>
      obtain rfl:=isW_int h1
      cases Y with
      | pair c1 c2=>exact absurd rfl (n2 c1 c2)
      | non=>obtain rfl:=isW_non h2; exact fin ⟨(fun h=>nomatch h),(fun h=>nomatch h)⟩ rfl
      | int j=>obtain rfl:=isW_int h2; exact fin ⟨(fun h=>by cases h; rfl),(fun h=>by cases h; rfl)⟩ rfl
theorem rowE_step {kd:Kd} {ok:KdOk kd} {A:Mat (Car kd)} {i j:Nat}:rowE ok A i (j + 1)=rowE ok A i j ++ if enc kd (A i j)=enc kd (ks kd ok).zero then [] else [⟨i,j,A i j⟩]:=rfl
def spWithout (a:Adr):Sp:=fun vs H Q E=>∃ (np kp tp:Addr) (kd:Kd) (ok:KdOk kd) (m p:Nat) (xs:List V) (es:List (Edge (Car kd))),vs=[.ref np,.int (p:Int)]∧NetIs a H np kd (m + 1) kp tp xs (es.map (Edge.road kd))∧HasK kd∧Graph kd (m + 1) es∧es.length≤64∧p < m + 1∧1≤m∧m≤6 ∧
  ((ks kd ok).star (edgeM (ks kd ok) es p p)=none→∀ H',Same H H'→E (.ref a.cNoSum) none H') ∧
  (∀ r,(ks kd ok).star (edgeM (ks kd ok) es p p)=some r→∀ np' tp' ys H',Same H H'→NetIs a H' np' kd m kp tp' ys ((outE ok es p m r).map (Edge.road kd))→Q (.ref np') H')
theorem sc_without:FnScope ["net","place","kind","rows","left","roads","start","one","end","other"] ["net","place"] (defScope (top 41)):=⟨rfl,rfl,rfl,by decide +kernel,rfl,by decide +kernel,by decide +kernel⟩
theorem d_without (T:Tx K mg a) (V_kind:Mth P w K mg base 1 (fun _:Unit=>a.cNet) "kind" ["self"] (fun _=>spNKind a)) (V_places:Mth P w K mg base 1 (fun _:Unit=>a.cNet) "places" ["self"] (fun _=>spNPlaces a)) (V_none:Mth P w K mg base 1 a.cl "none" ["self"] (fun i=>spZero a i.1))
    (D_check_place:Dn P w K mg base 2 "check_place" ["net","place"] (spPlace a)) (D_straight:Dn P w K mg base 36 "straight" ["net"] (spStraight a)) (D_led_through:Dn P w K mg base 37 "led_through" ["kind","rows","middle"] (spLed a)) (M_Net:Mkr P w K mg base 38 "Net" a.cNet ["self","kind","places","roads"] (spNet a))
    (F:DefAt K mg "without" (top 41)):Dn P w K mg base 40 "without" ["net","place"] (spWithout a):=by
  obtain ⟨f,fd,hm,F⟩:=F.ex
  refine ⟨f,fd,hm,F.kp,F.binds fun _ _ _ _ _ _ us hl=>match us,hl with | [_,_],_=>rfl,?_⟩
  refine F.okX sc_without (fun vs H Q E h=>?_) (fun cdv A outer s H vs Q E hr h=>?_)
  · obtain ⟨_,_,_,_,_,_,_,_,_,rfl,_⟩:=h
    rfl
  · obtain ⟨np,kp,tp,kd,ok,m,p,xs,es,rfl,N,hK,G,h64,hp,m1,m6,e,q⟩:=h
    refine ⟨_,(pss_cons (ps_if (pt_cmpR op_eq (pe_methV0 (pv 0) V_places (hr.mono (by decide)) pass_cx) pe_int (nomark _)) (pss_one (ps_raise T.x_NoNet rfl rfl rais_cx (pa_cons (hs:=st_Constant) pe_str pa_nil))) pss_nil)
      (pss_cons (ps_expr (pe_callD D_check_place (hr.mono (by decide)) rfl pass_cx (pa_cons (hs:=st_Name) (pv 0) (pa_cons (hs:=st_Name) (pv 1) pa_nil))))
      (pss_cons (ps_set (i:=2) sc_without.nd rfl (Or.inl rfl) (pe_methV0 (pv 0) V_kind (hr.mono (by decide)) pass_cx))
      (pss_cons (ps_set (i:=3) sc_without.nd rfl (Or.inl rfl) (pe_callD D_led_through (hr.mono (by decide)) rfl pass_cx (pa_cons (hs:=st_Name) (pv 2) (pa_cons (hs:=st_Call) (pe_callD D_straight (hr.mono (by decide)) rfl pass_cx (pa_cons (hs:=st_Name) (pv 0) pa_nil)) (pa_cons (hs:=st_Name) (pv 1) pa_nil)))))
      (pss_cons (ps_setC (i:=4) sc_without.nd rfl rfl (N:=["net","place","kind","rows","left","roads","start","one","end","other"]) (osc:=defScope (top 41)) (k:=1) (N':=["each","place"]) (fr:=[1]) ⟨rfl,by decide +kernel,by decide +kernel,by decide +kernel,rfl,by decide +kernel,by decide +kernel⟩ rfl rfl rfl (pi_range1 rfl T.b_range (pa_cons (hs:=st_Call) (pe_methV0 (pv 0) V_places (hr.mono (by decide)) pass_cx) pa_nil)) (fun ca=>⟨(pg_name (i:=0) (show List.Nodup (["each","place"]:List Str) from by decide +kernel) rfl (Or.inl rfl)),(pts_one (pt_cmpR op_ne (pv 0) (pv 1) (nomark _))),(pv 0)⟩))
      (pss_cons (ps_set (i:=5) sc_without.nd rfl (Or.inl rfl) (pe_lst pa_nil))
      (pss_cons (ps_for own_cx rfl (pi_enum rfl T.b_enumerate (pa_cons (hs:=st_Name) (pv 4) pa_nil)) (pg_tup rfl (pgs_cons (pg_name (i:=6) sc_without.nd rfl (Or.inl rfl)) (pgs_cons (pg_name (i:=7) sc_without.nd rfl (Or.inl rfl)) pgs_nil))) (pss_one (ps_for own_cx rfl (pi_enum rfl T.b_enumerate (pa_cons (hs:=st_Name) (pv 4) pa_nil)) (pg_tup rfl (pgs_cons (pg_name (i:=8) sc_without.nd rfl (Or.inl rfl)) (pgs_cons (pg_name (i:=9) sc_without.nd rfl (Or.inl rfl)) pgs_nil))) (pss_one (ps_if (pt_cmpR (op_ne.or (op_neT hr.units0)) (pe_ix ix_list (pe_ix ix_list (pv 3) (pv 7) (fun _ _=>rfl)) (pv 9) (fun _ _=>rfl)) (pe_methV0 (pv 2) V_none (hr.mono (by decide)) pass_cx) (nomark _)) (pss_one (ps_expr (pe_bm PySem.F.plainAttrs_list PySem.F.slot_list_append PySem.F.type_list_append mt_append (pv 5) (pa_cons (hs:=st_Tuple) (pe_tup (pa_cons (hs:=st_Name) (pv 6) (pa_cons (hs:=st_Name) (pv 8) (pa_cons (hs:=st_Subscript) (pe_ix ix_list (pe_ix ix_list (pv 3) (pv 7) (fun _ _=>rfl)) (pv 9) (fun _ _=>rfl)) pa_nil)))) pa_nil)))) pss_nil)))))
      (pss_one (ps_ret (pe_makeD M_Net (hr.mono (by decide)) rfl pass_cx (pa_cons (hs:=st_Name) (pv 2) (pa_cons (hs:=st_Call) (pe_callB call_len_seq rfl T.b_len bt_len (pa_cons (hs:=st_Name) (pv 4) pa_nil)) (pa_cons (hs:=st_Name) (pv 5) pa_nil))))))))))))),?_⟩
    obtain ⟨dx,hx⟩:=N.ins
    obtain ⟨kdx,hk⟩:=N.kind
    have b8:(8:Nat) < 10 ^ 62:=by decide
    refine ⟨_,rfl,(),np,dx,_,rfl,hx,rfl,np,kp,tp,kd,m + 1,xs,_,rfl,N,rfl,_,rfl,iteEqI (fun c=>absurd c (by omega)) (fun _=>?_)⟩
    unfold tNext
    dsimp only [gName]
    refine ⟨_,rfl,_,rfl,np,(p:Int),kd,m + 1,kp,tp,xs,_,rfl,N,by omega,fun _=>?_,fun z=>absurd z (by omega)⟩
    refine ⟨_,rfl,(),np,dx,_,rfl,hx,rfl,np,kp,tp,kd,m + 1,xs,_,rfl,N,?_⟩
    refine ⟨_,rfl,_,rfl,np,kp,tp,kd,ok,m + 1,xs,es,rfl,N,hK,G.grT h64,fun rl0 rs0 H1 s1 M1=>?_⟩
    refine ⟨_,rfl,kp,rl0,kd,ok,m + 1,p,rs0,_,rfl,⟨kdx,s1 _ _ hk⟩,hK,by omega,hp,M1,fun r hr i j _ _=>(led_sm G h64 hr i j).mono (by decide),fun hr H' s'=>e hr H' (s1.trans s'),fun r hr rl rs H2 s2 _ _ M2=>?_⟩
    have s02:=s1.trans s2
    have q:=q r hr
    dsimp only [gName]
    refine seqK (fun σ H'=>∃ ll,σ=[some (.ref np),some (.int (p:Int)),some (.ref kp),some (.ref rl),some (.ref ll),none,none,none,none,none]∧Same H2 H'∧H' ll=some (.lst (lefts p m))) (fun nx kk=>?_) ?_
    · refine ⟨_,rfl,(),np,dx,_,rfl,s02 _ _ hx,rfl,np,kp,tp,kd,m + 1,xs,_,rfl,N.same s02,((m + 1:Nat):Int),rfl,by omega,by omega,comp_range (n:=((m + 1:Nat):Int).toNat) (fun i ys H'=>H'=H2∧ys=nats ((List.range i).filter fun x=>decide (x≠p))) (lines (by omega)) ⟨rfl,rfl⟩ ?_ ?_⟩
      · rintro i ys H' hi ⟨rfl,rfl⟩ ca
        refine ⟨⟨rfl,rfl⟩,?_⟩
        have ei:(0 + (i:Int))=((i:Nat):Int):=by omega
        refine ⟨_,rfl,_,rfl,rfl,_,rfl,iteNeI (fun c=>?_) (fun c=>?_)⟩
        · refine ⟨_,rfl,rfl,?_⟩
          rw [filter_step,if_neg (by omega),ei]
        · refine ⟨rfl,?_⟩
          rw [filter_step,if_pos (by omega)]
      · rintro ys H' ⟨rfl,rfl⟩ ll nll
        rw [Int.toNat_natCast,filter_end hp]
        exact kk _ _ ⟨ll,rfl,same_one nll,upd_same⟩
    rintro σ H3 ⟨ll,rfl,s3,hll⟩
    have s03:=s02.trans s3
    have M3:=M2.same s3
    refine ⟨(by show 0≤sizeLine; decide),fun lr nlr=>?_⟩
    have u4:=same_one (o:=.lst []) nlr
    have z4:=upd_same (H:=H3) (a:=lr) (o:=.lst [])
    generalize upd H3 lr (.lst [])=H4 at u4 z4
    have ml:(matE ok (fun i j=>ledA (ks kd ok) (edgeM (ks kd ok) es) p r (lf p i) (lf p j)) m m).length≤36:=Nat.le_trans (matE_len ok m) (Nat.mul_le_mul m6 m6)
    dsimp only [gName]
    refine seqK (fun σ H'=>∃ zs o6 o7 o8 o9,σ=[some (.ref np),some (.int (p:Int)),some (.ref kp),some (.ref rl),some (.ref ll),some (.ref lr),o6,o7,o8,o9]∧Same H3 H'∧H' lr=some (.lst zs)∧IsRoads H' zs ((outE ok es p m r).map (Edge.road kd))) (fun nx kk=>?_) ?_
    · refine ⟨_,rfl,ll,rfl,⟨_,SqL.of (u4 _ _ hll)⟩,for_enum (xs:=lefts p m) (fun i σ H'=>∃ zs o6 o7 o8 o9,σ=[some (.ref np),some (.int (p:Int)),some (.ref kp),some (.ref rl),some (.ref ll),some (.ref lr),o6,o7,o8,o9]∧Same H3 H'∧H' lr=some (.lst zs)∧IsRoads H' zs ((matE ok (fun i j=>ledA (ks kd ok) (edgeM (ks kd ok) es) p r (lf p i) (lf p j)) m i).map (Edge.road kd))) ⟨[],_,_,_,_,rfl,u4,z4,.nil⟩ (fun i σ H' _ ⟨_,_,_,_,_,_,s',_⟩=>SqL.of (s' _ _ hll)) ?_ ?_⟩
      · rintro i x σ H5 p1 ex ⟨zs,o6,o7,o8,o9,rfl,s5,hlr,hz⟩ np1
        have hi:i < m:=by have:=(List.getElem?_eq_some_iff.mp ex).1; rw [lefts_len] at this; exact this
        obtain rfl:V.int (lf p i:Nat)=x:=Option.some.inj ((lefts_get hi).symm.trans ex)
        have u6:=same_one (o:=.tup [.int (i:Nat),.int (lf p i:Nat)]) np1
        refine ⟨p1,_,rfl,SqT.of upd_same,rfl,_,_,rfl,_,_,rfl,rfl,?_⟩
        have s6:=s5.trans u6
        have z6:=u6 _ _ hlr
        have hz6:=hz.same u6
        generalize upd H5 p1 (.tup [.int (i:Nat),.int (lf p i:Nat)])=H6 at u6 s6 z6 hz6
        dsimp only [gName]
        refine ⟨_,rfl,ll,rfl,⟨_,SqL.of (s6 _ _ hll)⟩,for_enum (xs:=lefts p m) (fun j σ H'=>∃ zs o8 o9,σ=[some (.ref np),some (.int (p:Int)),some (.ref kp),some (.ref rl),some (.ref ll),some (.ref lr),some (.int (i:Int)),some (.int (lf p i:Nat)),o8,o9]∧Same H3 H'∧H' lr=some (.lst zs)∧IsRoads H' zs ((matE ok (fun i j=>ledA (ks kd ok) (edgeM (ks kd ok) es) p r (lf p i) (lf p j)) m i ++ rowE ok (fun i j=>ledA (ks kd ok) (edgeM (ks kd ok) es) p r (lf p i) (lf p j)) i j).map (Edge.road kd))) ⟨zs,_,_,rfl,s6,z6,by show IsRoads _ _ ((_ ++ []).map _); rw [List.append_nil]; exact hz6⟩ (fun j σ H' _ ⟨_,_,_,_,s',_⟩=>SqL.of (s' _ _ hll)) ?_ ?_⟩
        · rintro j x σ H7 p2 ex ⟨zs,o8,o9,rfl,s7,hlr,hz⟩ np2
          have hj:j < m:=by have:=(List.getElem?_eq_some_iff.mp ex).1; rw [lefts_len] at this; exact this
          obtain rfl:V.int (lf p j:Nat)=x:=Option.some.inj ((lefts_get hj).symm.trans ex)
          have u8:=same_one (o:=.tup [.int (j:Nat),.int (lf p j:Nat)]) np2
          refine ⟨p2,_,rfl,SqT.of upd_same,rfl,_,_,rfl,_,_,rfl,rfl,?_⟩
          have s8:=s7.trans u8
          have z8:=u8 _ _ hlr
          have hz8:=hz.same u8
          generalize upd H7 p2 (.tup [.int (j:Nat),.int (lf p j:Nat)])=H8 at u8 s8 z8 hz8
          dsimp only [gName]
          have M8:=M3.same s8
          obtain ⟨ra,ya,a1,a2,a3,a4⟩:=mat_at M8 (lf_lt (p:=p) hi)
          obtain ⟨vx,ex2,wx,sx⟩:=a4.2 _ (lf_lt (p:=p) hj)
          refine ⟨_,rfl,_,rfl,rl,_,_,_,rfl,rfl,SqL.of M8.top,a2,_,rfl,ra,_,_,_,rfl,rfl,SqL.of a3,atI_nat ex2,?_⟩
          refine ⟨_,rfl,⟨kd,hK⟩,kp,kdx,_,rfl,(s03.trans s8) _ _ hk,kfs_no _ (by decide +kernel),kp,ok,rfl,⟨kdx,(s03.trans s8) _ _ hk⟩,fun v9 H9 s9 w9=>?_⟩
          have z9:=s9 _ _ z8
          have hz9:=hz8.same s9
          have M9:=M8.same s9
          have s39:=s8.trans s9
          refine neD (wx.same s9) w9 ⟨_,rfl,iteB (fun c=>?_) (fun c=>?_)⟩
          · have c:¬ enc kd (ledA (ks kd ok) (edgeM (ks kd ok) es) p r (lf p i) (lf p j))=enc kd (ks kd ok).zero:=by simpa using c
            refine ⟨_,rfl,.inl ⟨rfl,_,SqL.of z9⟩,?_⟩
            refine ⟨_,rfl,_,rfl,_,rfl,_,rfl,rl,_,_,_,rfl,rfl,SqL.of M9.top,a2,_,rfl,ra,_,_,_,rfl,rfl,SqL.of (s9 _ _ a3),atI_nat ex2,?_⟩
            refine ⟨(by show 3≤sizeLine; decide),fun tq ntq=>?_⟩
            have hzl:zs.length≤100:=by
              rw [hz9.length,List.length_map,List.length_append]
              have l1:=matE_len ok (A:=fun i j=>ledA (ks kd ok) (edgeM (ks kd ok) es) p r (lf p i) (lf p j)) (m:=m) i
              have l2:=rowE_len ok (A:=fun i j=>ledA (ks kd ok) (edgeM (ks kd ok) es) p r (lf p i) (lf p j)) (i:=i) j
              have l3:i * m≤6 * 6:=Nat.mul_le_mul (by omega) m6
              omega
            have uA:=same_one (o:=.tup [.int (i:Int),.int (j:Int),vx]) ntq
            have zA:=uA _ _ z9
            refine ⟨lr,zs,_,rfl,rfl,zA,lines (by omega),?_⟩
            have st:=stup_lst (o:=.lst (zs ++ [V.ref tq])) zA
            have wA:IsW _ vx _:=(wx.same (s9.trans uA)).st st
            have tA:=st _ _ (upd_same (H:=H9) (a:=tq) (o:=.tup [.int (i:Int),.int (j:Int),vx]))
            refine ⟨_,_,_,rfl,same_upd (s39.trans uA) nlr,upd_same,?_⟩
            rw [rowE_step,if_neg c,← List.append_assoc,List.map_append]
            exact Paired.snoc' ((hz9.same uA).st st) ⟨tq,vx,rfl,tA,wA⟩
          · have c:enc kd (ledA (ks kd ok) (edgeM (ks kd ok) es) p r (lf p i) (lf p j))=enc kd (ks kd ok).zero:=by simpa using c
            refine ⟨_,_,_,rfl,s39,z9,?_⟩
            rw [rowE_step,if_pos c,List.append_nil]
            exact hz9
        · rintro σ H7 ⟨zs,o8,o9,rfl,s7,hlr,hz⟩
          rw [lefts_len] at hz
          exact ⟨zs,_,_,_,_,rfl,s7,hlr,hz⟩
      · rintro σ H5 ⟨zs,o6,o7,o8,o9,rfl,s5,hlr,hz⟩
        rw [lefts_len] at hz
        exact kk _ _ ⟨zs,_,_,_,_,rfl,s5,hlr,hz⟩
    rintro σ H5 ⟨zs,o6,o7,o8,o9,rfl,s5,hlr,hz⟩
    refine ⟨_,rfl,_,rfl,ll,_,rfl,.inl (SqL.of (s5 _ _ hll)),_,rfl,?_⟩
    rw [lefts_len]
    refine mk_any ⟨kdx,(s03.trans s5) _ _ hk⟩ hK ok hlr hz (log2_small (by omega)) (fun _ _=>out_sm G h64 hr) (fun _ _ np' tp' H6 s6 _ N6=>?_) (fun z=>by rw [out_yes G hp m1 hr] at z; cases z) (fun _ z=>by rw [out_worths] at z; cases z)
    rw [Int.toNat_natCast] at N6
    exact q np' tp' zs H6 ((s03.trans s5).trans s6) N6
end
end K13
namespace K13
open PySem L2 Ws
seal PE PT PW PA PC PS PSs PG PGs PI PO PJ PTs
section
variable {P : Program} {w : World} {K : PySem.W.Frag} {mg : Str → Option Value} {base : Heap} {a : Adr}
theorem step_unit {S:Type} (M:KSR S) {es:List (Edge S)} {k:Nat} {e:Edge S} (ee:es[k]?=some e) (i b:Nat):stepV M (es.take (k + 1)) (unitV M i) b=if i=e.f∧b=e.t then M.add (stepV M (es.take k) (unitV M i) b) e.c else stepV M (es.take k) (unitV M i) b:=by
  rw [stepV_take ee]
  unfold unitV KSR.when
  by_cases c1:b=e.t
  · rw [if_pos c1]
    by_cases c2:i=e.f
    · rw [if_pos (show i=e.f∧b=e.t from ⟨c2,c1⟩),if_pos c2.symm,M.one_mul]
    · rw [if_neg (show ¬ (i=e.f∧b=e.t) from fun z=>c2 z.1),if_neg (Ne.symm c2),M.zero_mul,M.add_zero]
  · rw [if_neg c1,if_neg (show ¬ (i=e.f∧b=e.t) from fun z=>c1 z.2)]
def spBetw:Sp:=fun vs H Q _=>∃ (kd:Kd) (ok:KdOk kd) (rl:Addr) (n i j:Nat) (xs:List V) (es:List (Edge (Car kd))),vs=[.int (kno kd),.ref rl,.int (i:Int),.int (j:Int)]∧H rl=some (.lst xs)∧IsRoads H xs (es.map (Edge.road kd))∧GrT kd ok n es ∧
  ∀ v H',Same H H'→IsW H' v (enc kd (edgeM (ks kd ok) es i j))→Q v H'
theorem sc_law_between:FnScope ["which","roads","i","j","due","road"] ["which","roads","i","j"] (defScope (top 56)):=⟨rfl,rfl,rfl,by decide +kernel,rfl,by decide +kernel,by decide +kernel⟩
theorem d_between (T:Tx K mg a) (D_law_none:Dn P w K mg base 1 "_law_none" ["which"] spNone) (D_law_tog:Dn P w K mg base 34 "_law_tog" ["which","one","other"] spLTog) (F:DefAt K mg "_law_between" (top 56)):Dn P w K mg base 35 "_law_between" ["which","roads","i","j"] spBetw:=by
  obtain ⟨f,fd,hm,F⟩:=F.ex
  refine ⟨f,fd,hm,F.kp,F.binds fun _ _ _ _ _ _ us hl=>match us,hl with | [_,_,_,_],_=>rfl,?_⟩
  refine F.okN sc_law_between (fun vs H Q E h=>?_) (fun cdv A outer s H vs Q E hr h=>?_)
  · obtain ⟨_,_,_,_,_,_,_,_,rfl,_⟩:=h
    rfl
  · obtain ⟨kd,ok,rl,n,i,j,xs,es,rfl,hx,hR,G,q⟩:=h
    refine ⟨_,(pss_cons (ps_set (i:=4) sc_law_between.nd rfl (Or.inl rfl) (pe_callD D_law_none (hr.mono (by decide)) rfl passE0 (pa_cons (hs:=st_Name) (pv 0) pa_nil)))
      (pss_cons (ps_for PassesOwn.never rfl (pi_list (pv 1)) (pg_name (i:=5) sc_law_between.nd rfl (Or.inl rfl)) (pss_one (ps_if (PW.pt (pw_and (pt_cmpR op_eq (pe_ix ix_tup (pv 5) pe_int (fun _ _=>rfl)) (pv 2) (nomark _)) (pw_and1 (pt_cmpR op_eq (pe_ix ix_tup (pv 5) pe_int (fun _ _=>rfl)) (pv 3) (nomark _))))) (pss_one (ps_set (i:=4) sc_law_between.nd rfl (Or.inl rfl) (pe_callD D_law_tog (hr.mono (by decide)) rfl passE0 (pa_cons (hs:=st_Name) (pv 0) (pa_cons (hs:=st_Name) (pv 4) (pa_cons (hs:=st_Subscript) (pe_ix ix_tup (pv 5) pe_int (fun _ _=>rfl)) pa_nil)))))) pss_nil)))
      (pss_one (ps_ret (pv 4))))),?_⟩
    have hl:xs.length=es.length:=by rw [hR.length,List.length_map]
    refine ⟨_,rfl,kno kd,rfl,kno_lo kd,kno_hi kd,fun v0 H1 s1 w1=>?_⟩
    rw [noneW_kno kd ok] at w1
    refine ⟨_,rfl,rl,rfl,⟨xs,SqL.of (s1 _ _ hx)⟩,for_list (xs:=xs) (fun k σ H'=>∃ (v:V) (o:Option V),σ=[some (.int (kno kd)),some (.ref rl),some (.int (i:Int)),some (.int (j:Int)),some v,o]∧Same H H'∧IsW H' v (enc kd (stepV (ks kd ok) (es.take k) (unitV (ks kd ok) i) j))) ⟨v0,_,rfl,s1,w1⟩ (fun k σ H' _ ⟨_,_,_,s',_⟩=>SqL.of (s' _ _ hx)) ?_ ?_⟩
    · rintro k x σ H' ex ⟨v,o,rfl,s',wv⟩
      have hk:k < es.length:=by have:=(List.getElem?_eq_some_iff.mp ex).1; omega
      have ee:es[k]?=some es[k]:=List.getElem?_eq_getElem hk
      obtain ⟨r,er,pr,wr,rfl,f2,f3⟩:=pget hR ex
      rw [List.getElem?_map,ee] at er
      obtain rfl:Edge.road kd es[k]=r:=Option.some.inj er
      have sme:=G.sm es[k] (List.getElem_mem hk)
      generalize es[k]=e at ee f2 f3 sme
      have t7:=s' _ _ f2
      refine ⟨_,rfl,pr,_,_,_,rfl,rfl,SqT.of t7,rfl,_,rfl,rfl,_,rfl,iteEqI (fun c1=>?_) (fun c1=>?_)⟩
      · refine ⟨_,rfl,pr,_,_,_,rfl,rfl,SqT.of t7,rfl,_,rfl,rfl,_,rfl,iteEqI (fun c2=>?_) (fun c2=>?_)⟩
        · refine ⟨_,rfl,_,rfl,_,rfl,pr,_,_,_,rfl,rfl,SqT.of t7,rfl,?_⟩
          refine ⟨kd,ok,v,wr,_,e.c,rfl,wv,f3.same s',(G.sum k i j).mono (by decide),sme.mono (by decide),fun v2 H2 s2 w2=>?_⟩
          refine ⟨v2,_,rfl,s'.trans s2,?_⟩
          rw [step_unit (ks kd ok) ee,if_pos ⟨(Int.ofNat.inj c1).symm,(Int.ofNat.inj c2).symm⟩]
          exact w2
        · refine ⟨v,_,rfl,s',?_⟩
          rw [step_unit (ks kd ok) ee,if_neg (fun z=>c2 (congrArg Int.ofNat z.2.symm))]
          exact wv
      · refine iteF ⟨v,_,rfl,s',?_⟩
        rw [step_unit (ks kd ok) ee,if_neg (fun z=>c1 (congrArg Int.ofNat z.1.symm))]
        exact wv
    · rintro σ H' ⟨v,o,rfl,s',wv⟩
      rw [hl,List.take_length] at wv
      exact ⟨_,rfl,q v H' s' wv⟩
def spLDue:Sp:=fun vs H Q _=>∃ (kd:Kd) (ok:KdOk kd) (m:Int) (rl:Addr) (n p:Nat) (xs:List V) (es:List (Edge (Car kd))) (r:Car kd),vs=[.int (kno kd),.int m,.int ((n + 1:Nat):Int),.ref rl,.int (p:Int)]∧MIs kd m∧H rl=some (.lst xs)∧IsRoads H xs (es.map (Edge.road kd))∧Graph kd (n + 1) es∧es.length≤64∧p < n + 1∧n≤6∧(ks kd ok).star (edgeM (ks kd ok) es p p)=some r ∧
  ∀ l zs H',Same H H'→H' l=some (.lst zs)→IsRoads H' zs ((outE ok es p n r).map (Edge.road kd))→Q (.ref l) H'
theorem sc_law_due:FnScope ["which","m","many","roads","place","ring","left","due","i","j","over","worth"] ["which","m","many","roads","place"] (defScope (top 57)):=⟨rfl,rfl,rfl,by decide +kernel,rfl,by decide +kernel,by decide +kernel⟩
theorem d_law_due (T:Tx K mg a) (D_law_none:Dn P w K mg base 1 "_law_none" ["which"] spNone) (D_law_tog:Dn P w K mg base 34 "_law_tog" ["which","one","other"] spLTog) (D_law_beh:Dn P w K mg base 34 "_law_beh" ["which","m","one","other"] spLBeh) (D_law_between:Dn P w K mg base 35 "_law_between" ["which","roads","i","j"] spBetw)
    (D_law_rounds:Dn P w K mg base 35 "_law_rounds" ["which","m","one"] spLRnd) (F:DefAt K mg "_law_due" (top 57)):Dn P w K mg base 36 "_law_due" ["which","m","many","roads","place"] spLDue:=by
  obtain ⟨f,fd,hm,F⟩:=F.ex
  refine ⟨f,fd,hm,F.kp,F.binds fun _ _ _ _ _ _ us hl=>match us,hl with | [_,_,_,_,_],_=>rfl,?_⟩
  refine F.okN sc_law_due (fun vs H Q E h=>?_) (fun cdv A outer s H vs Q E hr h=>?_)
  · obtain ⟨_,_,_,_,_,_,_,_,_,rfl,_⟩:=h
    rfl
  · obtain ⟨kd,ok,mm,rl,m,p,xs,es,r,rfl,hmi,hx,hR,G,h64,hp,m6,hr',q⟩:=h
    refine ⟨_,(pss_cons (ps_set (i:=5) sc_law_due.nd rfl (Or.inl rfl) (pe_callD D_law_rounds (hr.mono (by decide)) rfl passE0 (pa_cons (hs:=st_Name) (pv 0) (pa_cons (hs:=st_Name) (pv 1) (pa_cons (hs:=st_Call) (pe_callD D_law_between (hr.mono (by decide)) rfl passE0 (pa_cons (hs:=st_Name) (pv 0) (pa_cons (hs:=st_Name) (pv 3) (pa_cons (hs:=st_Name) (pv 4) (pa_cons (hs:=st_Name) (pv 4) pa_nil))))) pa_nil)))))
      (pss_cons (ps_setC (i:=6) sc_law_due.nd rfl rfl (N:=["which","m","many","roads","place","ring","left","due","i","j","over","worth"]) (osc:=defScope (top 57)) (k:=1) (N':=["k","place"]) (fr:=[4]) ⟨rfl,by decide +kernel,by decide +kernel,by decide +kernel,rfl,by decide +kernel,by decide +kernel⟩ rfl rfl rfl (pi_range1 rfl T.b_range (pa_cons (hs:=st_Name) (pv 2) pa_nil)) (fun ca=>⟨(pg_name (i:=0) (show List.Nodup (["k","place"]:List Str) from by decide +kernel) rfl (Or.inl rfl)),(pts_one (pt_cmpR op_ne (pv 0) (pv 1) (nomark _))),(pv 0)⟩))
      (pss_cons (ps_set (i:=7) sc_law_due.nd rfl (Or.inl rfl) (pe_lst pa_nil))
      (pss_cons (ps_for PassesOwn.never rfl (pi_range1 rfl T.b_range (pa_cons (hs:=st_BinOp) (pe_op op_sub (pv 2) pe_int) pa_nil)) (pg_name (i:=8) sc_law_due.nd rfl (Or.inl rfl)) (pss_one (ps_for PassesOwn.never rfl (pi_range1 rfl T.b_range (pa_cons (hs:=st_BinOp) (pe_op op_sub (pv 2) pe_int) pa_nil)) (pg_name (i:=9) sc_law_due.nd rfl (Or.inl rfl)) (pss_cons (ps_set (i:=10) sc_law_due.nd rfl (Or.inl rfl) (pe_callD D_law_beh (hr.mono (by decide)) rfl passE0 (pa_cons (hs:=st_Name) (pv 0) (pa_cons (hs:=st_Name) (pv 1) (pa_cons (hs:=st_Call) (pe_callD D_law_between (hr.mono (by decide)) rfl passE0 (pa_cons (hs:=st_Name) (pv 0) (pa_cons (hs:=st_Name) (pv 3) (pa_cons (hs:=st_Subscript) (pe_ix ix_list (pv 6) (pv 8) (fun _ _=>rfl)) (pa_cons (hs:=st_Name) (pv 4) pa_nil))))) (pa_cons (hs:=st_Name) (pv 5) pa_nil))))))
      (pss_cons (ps_set (i:=10) sc_law_due.nd rfl (Or.inl rfl) (pe_callD D_law_beh (hr.mono (by decide)) rfl passE0 (pa_cons (hs:=st_Name) (pv 0) (pa_cons (hs:=st_Name) (pv 1) (pa_cons (hs:=st_Name) (pv 10) (pa_cons (hs:=st_Call) (pe_callD D_law_between (hr.mono (by decide)) rfl passE0 (pa_cons (hs:=st_Name) (pv 0) (pa_cons (hs:=st_Name) (pv 3) (pa_cons (hs:=st_Name) (pv 4) (pa_cons (hs:=st_Subscript) (pe_ix ix_list (pv 6) (pv 9) (fun _ _=>rfl)) pa_nil))))) pa_nil))))))
      (pss_cons (ps_set (i:=11) sc_law_due.nd rfl (Or.inl rfl) (pe_callD D_law_tog (hr.mono (by decide)) rfl passE0 (pa_cons (hs:=st_Name) (pv 0) (pa_cons (hs:=st_Call) (pe_callD D_law_between (hr.mono (by decide)) rfl passE0 (pa_cons (hs:=st_Name) (pv 0) (pa_cons (hs:=st_Name) (pv 3) (pa_cons (hs:=st_Subscript) (pe_ix ix_list (pv 6) (pv 8) (fun _ _=>rfl)) (pa_cons (hs:=st_Subscript) (pe_ix ix_list (pv 6) (pv 9) (fun _ _=>rfl)) pa_nil))))) (pa_cons (hs:=st_Name) (pv 10) pa_nil)))))
      (pss_one (ps_if (pt_cmpR (op_ne.or (op_neT hr.units0)) (pv 11) (pe_callD D_law_none (hr.mono (by decide)) rfl passE0 (pa_cons (hs:=st_Name) (pv 0) pa_nil)) (nomark _)) (pss_one (ps_expr (pe_bm PySem.F.plainAttrs_list PySem.F.slot_list_append PySem.F.type_list_append mt_append (pv 7) (pa_cons (hs:=st_Tuple) (pe_tup (pa_cons (hs:=st_Name) (pv 8) (pa_cons (hs:=st_Name) (pv 9) (pa_cons (hs:=st_Name) (pv 11) pa_nil)))) pa_nil)))) pss_nil))))))))
      (pss_one (ps_ret (pv 7))))))),?_⟩
    have GT:=G.grT (ok:=ok) h64
    have smE:∀ i j,Sm 52000 (enc kd (edgeM (ks kd ok) es i j)):=fun i j=>by
      have:=GT.sum es.length i j
      rw [List.take_length] at this; exact this
    have smr:=sm_star (smE p p) hr'
    refine ⟨_,rfl,_,rfl,_,rfl,_,rfl,_,rfl,_,rfl,kd,ok,rl,m + 1,p,p,xs,es,rfl,hx,hR,GT,fun v1 H1 s1 w1=>?_⟩
    refine ⟨kd,ok,mm,v1,_,rfl,hmi,w1,(smE p p).mono (by decide),fun v2 H2 s2 w2=>?_⟩
    rw [hr'] at w2
    have w2:IsW H2 v2 (enc kd r):=w2
    have s02:=s1.trans s2
    dsimp only [gName]
    refine seqK (fun σ H'=>∃ ll,σ=[some (.int (kno kd)),some (.int mm),some (.int ((m + 1:Nat):Int)),some (.ref rl),some (.int (p:Int)),some v2,some (.ref ll),none,none,none,none,none]∧Same H2 H'∧H' ll=some (.lst (lefts p m))) (fun nx kk=>?_) ?_
    · refine ⟨_,rfl,((m + 1:Nat):Int),rfl,by omega,by omega,comp_range (n:=((m + 1:Nat):Int).toNat) (fun i ys H'=>H'=H2∧ys=nats ((List.range i).filter fun x=>decide (x≠p))) (lines (by omega)) ⟨rfl,rfl⟩ ?_ ?_⟩
      · rintro i ys H' hi ⟨rfl,rfl⟩ ca
        refine ⟨⟨rfl,rfl⟩,?_⟩
        have ei:(0 + (i:Int))=((i:Nat):Int):=by omega
        refine ⟨_,rfl,_,rfl,rfl,_,rfl,iteNeI (fun c=>?_) (fun c=>?_)⟩
        · refine ⟨_,rfl,rfl,?_⟩
          rw [filter_step,if_neg (by omega),ei]
        · refine ⟨rfl,?_⟩
          rw [filter_step,if_pos (by omega)]
      · rintro ys H' ⟨rfl,rfl⟩ ll nll
        rw [Int.toNat_natCast,filter_end hp]
        exact kk _ _ ⟨ll,rfl,same_one nll,upd_same⟩
    rintro σ H3 ⟨ll,rfl,s3,hll⟩
    have s03:=s02.trans s3
    have w3:=w2.same s3
    refine ⟨(by show 0≤sizeLine; decide),fun lr nlr=>?_⟩
    have u4:=same_one (o:=.lst []) nlr
    have z4:=upd_same (H:=H3) (a:=lr) (o:=.lst [])
    generalize upd H3 lr (.lst [])=H4 at u4 z4
    dsimp only [gName]
    refine ⟨_,rfl,_,_,rfl,rfl,(m:Int),by show [V.int (((m + 1:Nat):Int) - 1)]=_; rw [show ((m + 1:Nat):Int) - 1=(m:Int) by omega],by omega,by omega,for_range (n:=(m:Int).toNat) (fun i σ H'=>∃ zs o8 o9 o10 o11,σ=[some (.int (kno kd)),some (.int mm),some (.int ((m + 1:Nat):Int)),some (.ref rl),some (.int (p:Int)),some v2,some (.ref ll),some (.ref lr),o8,o9,o10,o11]∧Same H3 H'∧H' lr=some (.lst zs)∧IsRoads H' zs ((matE ok (fun i j=>ledA (ks kd ok) (edgeM (ks kd ok) es) p r (lf p i) (lf p j)) m i).map (Edge.road kd))) ⟨[],_,_,_,_,rfl,u4,z4,.nil⟩ ?_ ?_⟩
    · rintro i σ H5 hi ⟨zs,o8,o9,o10,o11,rfl,s5,hlr,hz⟩
      have hi:i < m:=by omega
      have ei:(0 + (i:Int))=((i:Nat):Int):=by omega
      dsimp only [gName]
      rw [ei]
      refine ⟨_,rfl,_,_,rfl,rfl,(m:Int),by show [V.int (((m + 1:Nat):Int) - 1)]=_; rw [show ((m + 1:Nat):Int) - 1=(m:Int) by omega],by omega,by omega,for_range (n:=(m:Int).toNat) (fun j σ H'=>∃ zs o9 o10 o11,σ=[some (.int (kno kd)),some (.int mm),some (.int ((m + 1:Nat):Int)),some (.ref rl),some (.int (p:Int)),some v2,some (.ref ll),some (.ref lr),some (.int (i:Int)),o9,o10,o11]∧Same H3 H'∧H' lr=some (.lst zs)∧IsRoads H' zs ((matE ok (fun i j=>ledA (ks kd ok) (edgeM (ks kd ok) es) p r (lf p i) (lf p j)) m i ++ rowE ok (fun i j=>ledA (ks kd ok) (edgeM (ks kd ok) es) p r (lf p i) (lf p j)) i j).map (Edge.road kd))) ⟨zs,_,_,_,rfl,s5,hlr,by show IsRoads _ _ ((_ ++ []).map _); rw [List.append_nil]; exact hz⟩ ?_ ?_⟩
      · rintro j σ H7 hj ⟨zs,o9,o10,o11,rfl,s7,hlr,hz⟩
        have hj:j < m:=by omega
        have ej:(0 + (j:Int))=((j:Nat):Int):=by omega
        dsimp only [gName]
        rw [ej]
        have s07:=s03.trans s7
        have gi:=atI_nat (lefts_get (p:=p) hi)
        have gj:=atI_nat (lefts_get (p:=p) hj)
        refine ⟨_,rfl,_,rfl,_,rfl,_,rfl,_,rfl,_,rfl,ll,_,_,_,rfl,rfl,SqL.of (s7 _ _ hll),gi,_,rfl,?_⟩
        refine ⟨kd,ok,rl,m + 1,lf p i,p,xs,es,rfl,s07 _ _ hx,hR.same s07,GT,fun va Ha sa wa=>?_⟩
        refine ⟨_,rfl,kd,ok,mm,va,v2,_,r,rfl,hmi,wa,w3.same (s7.trans sa),(smE _ _).mono (by decide),smr.mono (by decide),fun vb Hb sb wb=>?_⟩
        have smb:=sm_mul (ok:=ok) (smE (lf p i) p) smr
        have s7b:=sa.trans sb
        dsimp only [gName]
        refine ⟨_,rfl,_,rfl,_,rfl,_,rfl,_,rfl,_,rfl,_,rfl,_,rfl,ll,_,_,_,rfl,rfl,SqL.of (s7b _ _ (s7 _ _ hll)),gj,?_⟩
        refine ⟨kd,ok,rl,m + 1,p,lf p j,xs,es,rfl,(s07.trans s7b) _ _ hx,hR.same (s07.trans s7b),GT,fun vc Hc sc' wc=>?_⟩
        refine ⟨kd,ok,mm,vb,vc,_,_,rfl,hmi,wb.same sc',wc,smb.mono (by decide),(smE _ _).mono (by decide),fun vd Hd sd wd=>?_⟩
        have smd:=sm_mul (ok:=ok) smb (smE p (lf p j))
        have s7d:=(s7b.trans sc').trans sd
        dsimp only [gName]
        refine ⟨_,rfl,_,rfl,_,rfl,_,rfl,_,rfl,ll,_,_,_,rfl,rfl,SqL.of (s7d _ _ (s7 _ _ hll)),gi,_,rfl,_,rfl,ll,_,_,_,rfl,rfl,SqL.of (s7d _ _ (s7 _ _ hll)),gj,?_⟩
        refine ⟨kd,ok,rl,m + 1,lf p i,lf p j,xs,es,rfl,(s07.trans s7d) _ _ hx,hR.same (s07.trans s7d),GT,fun ve He se we=>?_⟩
        refine ⟨_,rfl,kd,ok,ve,vd,_,_,rfl,we,wd.same se,(smE _ _).mono (by decide),smd.mono (by decide),fun vf Hf sf wf=>?_⟩
        have wf:IsW Hf vf (enc kd (ledA (ks kd ok) (edgeM (ks kd ok) es) p r (lf p i) (lf p j))):=wf
        dsimp only [gName]
        refine ⟨_,rfl,_,rfl,kno kd,rfl,kno_lo kd,kno_hi kd,fun v9 H9 s9 w9=>?_⟩
        rw [noneW_kno kd ok] at w9
        have s79:=((s7d.trans se).trans sf).trans s9
        have s39:=s7.trans s79
        have z9:=s79 _ _ hlr
        have hz9:=hz.same s79
        refine neD (wf.same s9) w9 ⟨_,rfl,iteB (fun c=>?_) (fun c=>?_)⟩
        · have c:¬ enc kd (ledA (ks kd ok) (edgeM (ks kd ok) es) p r (lf p i) (lf p j))=enc kd (ks kd ok).zero:=by simpa using c
          refine ⟨_,rfl,.inl ⟨rfl,_,SqL.of z9⟩,?_⟩
          refine ⟨_,rfl,_,rfl,_,rfl,?_⟩
          refine ⟨(by show 3≤sizeLine; decide),fun tq ntq=>?_⟩
          have hzl:zs.length≤100:=by
            rw [hz9.length,List.length_map,List.length_append]
            have l1:=matE_len ok (A:=fun i j=>ledA (ks kd ok) (edgeM (ks kd ok) es) p r (lf p i) (lf p j)) (m:=m) i
            have l2:=rowE_len ok (A:=fun i j=>ledA (ks kd ok) (edgeM (ks kd ok) es) p r (lf p i) (lf p j)) (i:=i) j
            have l3:i * m≤6 * 6:=Nat.mul_le_mul (by omega) m6
            omega
          have uA:=same_one (o:=.tup [.int (i:Int),.int (j:Int),vf]) ntq
          have zA:=uA _ _ z9
          refine ⟨lr,zs,_,rfl,rfl,zA,lines (by omega),?_⟩
          have st:=stup_lst (o:=.lst (zs ++ [V.ref tq])) zA
          have wA:IsW _ vf _:=(wf.same (s9.trans uA)).st st
          have tA:=st _ _ (upd_same (H:=H9) (a:=tq) (o:=.tup [.int (i:Int),.int (j:Int),vf]))
          refine ⟨_,_,_,_,rfl,same_upd (s39.trans uA) nlr,upd_same,?_⟩
          rw [rowE_step,if_neg c,← List.append_assoc,List.map_append]
          exact Paired.snoc' ((hz9.same uA).st st) ⟨tq,vf,rfl,tA,wA⟩
        · have c:enc kd (ledA (ks kd ok) (edgeM (ks kd ok) es) p r (lf p i) (lf p j))=enc kd (ks kd ok).zero:=by simpa using c
          refine ⟨_,_,_,_,rfl,s39,z9,?_⟩
          rw [rowE_step,if_pos c,List.append_nil]
          exact hz9
      · rintro σ H7 ⟨zs,o9,o10,o11,rfl,s7,hlr,hz⟩
        rw [Int.toNat_natCast] at hz
        exact ⟨zs,_,_,_,_,rfl,s7,hlr,hz⟩
    · rintro σ H5 ⟨zs,o8,o9,o10,o11,rfl,s5,hlr,hz⟩
      rw [Int.toNat_natCast] at hz
      exact ⟨_,rfl,q lr zs H5 (s03.trans s5) hlr hz⟩
def spSame (a:Adr):Sp:=fun vs H Q _=>∃ (np sp kp tp tp':Addr) (kd:Kd) (ok:KdOk kd) (m p:Nat) (xs ys:List V) (es:List (Edge (Car kd))) (r:Car kd),vs=[.ref np,.ref sp,.int (p:Int)]∧NetIs a H np kd (m + 1) kp tp xs (es.map (Edge.road kd))∧NetIs a H sp kd m kp tp' ys ((outE ok es p m r).map (Edge.road kd))∧Graph kd (m + 1) es∧es.length≤64∧p < m + 1∧1≤m∧m≤6∧(ks kd ok).star (edgeM (ks kd ok) es p p)=some r ∧
  ∀ H',Same H H'→Q (.bl true) H'
theorem sc_law_same_sums:FnScope ["net","smaller","place","one","other","left","i","j"] ["net","smaller","place"] (defScope (top 58)):=⟨rfl,rfl,rfl,by decide +kernel,rfl,by decide +kernel,by decide +kernel⟩
theorem d_same_sums (T:Tx K mg a) (D_table:Dn P w K mg base 38 "table" ["net"] (spTable a)) (D_law_is:Dn P w K mg base 2 "_law_is" ["found","due"] spIs) (F:DefAt K mg "_law_same_sums" (top 58)):Dn P w K mg base 40 "_law_same_sums" ["net","smaller","place"] (spSame a):=by
  obtain ⟨f,fd,hm,F⟩:=F.ex
  refine ⟨f,fd,hm,F.kp,F.binds fun _ _ _ _ _ _ us hl=>match us,hl with | [_,_,_],_=>rfl,?_⟩
  refine F.okN sc_law_same_sums (fun vs H Q E h=>?_) (fun cdv A outer s H vs Q E hr h=>?_)
  · obtain ⟨_,_,_,_,_,_,_,_,_,_,_,_,_,rfl,_⟩:=h
    rfl
  · obtain ⟨np,sp,kp,tp,tp',kd,ok,m,p,xs,ys,es,r,rfl,N,N',G,h64,hp,m1,m6,hr',q⟩:=h
    refine ⟨_,(pss_cons (ps_tryBE (asg:=[3]) T.k_NoSum rfl rfl ⟨rfl,rfl⟩ (fun _=>rfl) (fun Et pn k xe hx ho=>(pss_one (ps_set (i:=3) sc_law_same_sums.nd rfl (Or.inl rfl) (pe_callD D_table (hr.mono (by decide)) rfl hx (pa_cons (hs:=st_Name) (pv 0) pa_nil))))) (fun x pn=>(pss_one (ps_ret pe_bl))))
      (pss_cons (ps_set (i:=4) sc_law_same_sums.nd rfl (Or.inl rfl) (pe_callD D_table (hr.mono (by decide)) rfl passE0 (pa_cons (hs:=st_Name) (pv 1) pa_nil)))
      (pss_cons (ps_setC (i:=5) sc_law_same_sums.nd rfl rfl (N:=["net","smaller","place","one","other","left","i","j"]) (osc:=defScope (top 58)) (k:=1) (N':=["k","place"]) (fr:=[2]) ⟨rfl,by decide +kernel,by decide +kernel,by decide +kernel,rfl,by decide +kernel,by decide +kernel⟩ rfl rfl rfl (pi_range1 rfl T.b_range (pa_cons (hs:=st_Call) (pe_callB call_len_seq rfl T.b_len bt_len (pa_cons (hs:=st_Name) (pv 3) pa_nil)) pa_nil)) (fun ca=>⟨(pg_name (i:=0) (show List.Nodup (["k","place"]:List Str) from by decide +kernel) rfl (Or.inl rfl)),(pts_one (pt_cmpR op_ne (pv 0) (pv 1) (nomark _))),(pv 0)⟩))
      (pss_cons (ps_for PassesOwn.never rfl (pi_range1 rfl T.b_range (pa_cons (hs:=st_Call) (pe_callB call_len_seq rfl T.b_len bt_len (pa_cons (hs:=st_Name) (pv 5) pa_nil)) pa_nil)) (pg_name (i:=6) sc_law_same_sums.nd rfl (Or.inl rfl)) (pss_one (ps_for PassesOwn.never rfl (pi_range1 rfl T.b_range (pa_cons (hs:=st_Call) (pe_callB call_len_seq rfl T.b_len bt_len (pa_cons (hs:=st_Name) (pv 5) pa_nil)) pa_nil)) (pg_name (i:=7) sc_law_same_sums.nd rfl (Or.inl rfl)) (pss_one (ps_if (pt_not (pt_val (pe_callD D_law_is (hr.mono (by decide)) rfl passE0 (pa_cons (hs:=st_Subscript) (pe_ix ix_list (pe_ix ix_list (pv 4) (pv 6) (fun _ _=>rfl)) (pv 7) (fun _ _=>rfl)) (pa_cons (hs:=st_Subscript) (pe_ix ix_list (pe_ix ix_list (pv 3) (pe_ix ix_list (pv 5) (pv 6) (fun _ _=>rfl)) (fun _ _=>rfl)) (pe_ix ix_list (pv 5) (pv 7) (fun _ _=>rfl)) (fun _ _=>rfl)) pa_nil))) (fun _=>rfl))) (pss_one (ps_ret pe_bl)) pss_nil)))))
      (pss_one (ps_ret pe_bl)))))),?_⟩
    refine seqK (fun σ H'=>∃ A rl rs,σ=[some (.ref np),some (.ref sp),some (.int (p:Int)),some (.ref rl),none,none,none,none]∧stageA (ks kd ok) (edgeM (ks kd ok) es) (m + 1)=some A∧Same H H'∧IsMat H' kd (m + 1) rl rs (tabA (ks kd ok) A)) (fun nx kk=>?_) ?_
    · refine ⟨fun cls _ H'=>cls=.ref a.cNoSum∧Same H H',fun pn k xe=>?_,?_⟩
      · exact ⟨_,rfl,np,kp,tp,kd,ok,m + 1,xs,es,rfl,N,hasK kd,G.grT h64,G.tft h64 (by omega),by omega,fun _ H' s'=>⟨rfl,s'⟩,fun A hA rl rs H' s' n1 n2 MA=>kk _ _ ⟨A,rl,rs,rfl,hA,s',MA⟩⟩
      · rintro cls H' x ⟨rfl,s'⟩ hx
        refine ⟨T.exm_NoSum_NoSum,fun pn=>?_⟩
        exact q _ (s'.trans (same_one hx))
    rintro σ H1 ⟨A,rl,rs,rfl,hA,s1,MA⟩
    obtain ⟨As,hAs,tab⟩:=out_tab hp hr' hA
    refine ⟨_,rfl,sp,kp,tp',kd,ok,m,ys,_,rfl,N'.same s1,hasK kd,out_grT G h64 hr',out_tft G h64 (by omega) hr',by omega,(fun z=>by rw [hAs] at z; cases z),fun A' hA' rl2 rs2 H2 s2 _ _ MB=>?_⟩
    rw [hAs] at hA'
    obtain rfl:=Option.some.inj hA'
    have M2:=MA.same s2
    have hrl:(rs.map V.ref).length=m + 1:=by rw [List.length_map]; exact MA.len
    dsimp only [gName]
    refine seqK (fun σ H'=>∃ ll,σ=[some (.ref np),some (.ref sp),some (.int (p:Int)),some (.ref rl),some (.ref rl2),some (.ref ll),none,none]∧Same H2 H'∧H' ll=some (.lst (lefts p m))) (fun nx kk=>?_) ?_
    · refine ⟨_,rfl,rl,_,rfl,.inl (SqL.of M2.top),((m + 1:Nat):Int),by rw [hrl],by omega,by omega,comp_range (n:=((m + 1:Nat):Int).toNat) (fun i ys H'=>H'=H2∧ys=nats ((List.range i).filter fun x=>decide (x≠p))) (lines (by omega)) ⟨rfl,rfl⟩ ?_ ?_⟩
      · rintro i ys H' hi ⟨rfl,rfl⟩ ca
        refine ⟨⟨rfl,rfl⟩,?_⟩
        have ei:(0 + (i:Int))=((i:Nat):Int):=by omega
        refine ⟨_,rfl,_,rfl,rfl,_,rfl,iteNeI (fun c=>?_) (fun c=>?_)⟩
        · refine ⟨_,rfl,rfl,?_⟩
          rw [filter_step,if_neg (by omega),ei]
        · refine ⟨rfl,?_⟩
          rw [filter_step,if_pos (by omega)]
      · rintro ys H' ⟨rfl,rfl⟩ ll nll
        rw [Int.toNat_natCast,filter_end hp]
        exact kk _ _ ⟨ll,rfl,same_one nll,upd_same⟩
    rintro σ H3 ⟨ll,rfl,s3,hll⟩
    have M3:=M2.same s3
    have B3:=MB.same s3
    refine ⟨_,rfl,ll,_,rfl,.inl (SqL.of hll),(m:Int),by rw [lefts_len],by omega,by omega,for_range (n:=(m:Int).toNat) (fun i σ H'=>∃ o6 o7,σ=[some (.ref np),some (.ref sp),some (.int (p:Int)),some (.ref rl),some (.ref rl2),some (.ref ll),o6,o7]∧H'=H3) ⟨_,_,rfl,rfl⟩ ?_ (fun σ H' h=>by obtain ⟨_,_,_,rfl⟩:=h; exact q _ ((s1.trans s2).trans s3))⟩
    rintro i σ H' hi ⟨o6,o7,rfl,rfl⟩
    have hi:i < m:=by omega
    have ei:(0 + (i:Int))=((i:Nat):Int):=by omega
    dsimp only [gName]
    rw [ei]
    refine ⟨_,rfl,ll,_,rfl,.inl (SqL.of hll),(m:Int),by rw [lefts_len],by omega,by omega,for_range (n:=(m:Int).toNat) (fun j σ H9=>∃ o7,σ=[some (.ref np),some (.ref sp),some (.int (p:Int)),some (.ref rl),some (.ref rl2),some (.ref ll),some (.int (i:Int)),o7]∧H9=H') ⟨_,rfl,rfl⟩ ?_ (fun σ H9 ⟨o7,e1,e2⟩=>⟨_,o7,e1,e2⟩)⟩
    rintro j σ H9 hj ⟨o7,rfl,rfl⟩
    have hj:j < m:=by omega
    have ej:(0 + (j:Int))=((j:Nat):Int):=by omega
    dsimp only [gName]
    rw [ej]
    obtain ⟨ra,ya,a1,a2,a3,a4⟩:=mat_at M3 (lf_lt (p:=p) hi)
    obtain ⟨vx,ex,wx,sx⟩:=a4.2 _ (lf_lt (p:=p) hj)
    obtain ⟨rb,yb,b1,b2,b3,b4⟩:=mat_at B3 hi
    obtain ⟨vy,ey,wy,sy⟩:=b4.2 j hj
    rw [tab i j hi hj] at wy
    refine ⟨_,rfl,_,rfl,rl2,_,_,_,rfl,rfl,SqL.of B3.top,b2,_,rfl,rb,_,_,_,rfl,rfl,SqL.of b3,atI_nat ey,?_⟩
    refine ⟨_,rfl,_,rfl,_,rfl,ll,_,_,_,rfl,rfl,SqL.of hll,atI_nat (lefts_get hi),rl,_,_,_,rfl,rfl,SqL.of M3.top,a2,?_⟩
    refine ⟨_,rfl,_,rfl,ll,_,_,_,rfl,rfl,SqL.of hll,atI_nat (lefts_get hj),ra,_,_,_,rfl,rfl,SqL.of a3,atI_nat ex,?_⟩
    exact ⟨vy,vx,_,rfl,wy,wx,_,rfl,iteF ⟨_,rfl,rfl⟩⟩
end
end K13
namespace K13
open PySem L2 Ws
seal PE PT PW PA PC PS PSs PG PGs PI PO PJ PTs
section
variable {P : Program} {w : World} {K : PySem.W.Frag} {mg : Str → Option Value} {base : Heap} {a : Adr}
theorem good_more {kd:Kd} {most extra n most' n':Nat} {rs:List Road} (G:Good kd most extra n rs) (h:n≤n') (h2:n'≤most'):Good kd most' extra n' rs:=by
  refine ⟨by have:=G.n1; omega,h2,G.len,?_,G.worths,G.sm,G.den,G.starts⟩
  refine List.all_eq_true.mpr fun r hr=>?_
  have z:=List.all_eq_true.mp G.ends r hr
  simp only [endOk,Bool.and_eq_true,decide_eq_true_eq] at z ⊢
  omega
theorem cut_two (x y z:V):cutV [x,y,z] none (some 2)=[x,y]:=rfl
theorem sc_law:FnScope ["script","which","m","drawn","many","roads","place","net","ring","smaller","due","found","k"] ["script"] (defScope (top 59)):=⟨rfl,rfl,rfl,by decide +kernel,rfl,by decide +kernel,by decide +kernel⟩
theorem ok_law (T:Tx K mg a) (D_law_cell_at:Dn P w K mg base 1 "_law_cell_at" ["script","k"] (spCell K)) (D_law_kind:Dn P w K mg base 3 "_law_kind" ["which","m"] (spKind a)) (D_law_net:Dn P w K mg base 36 "_law_net" ["script","at","which","m","most","extra"] (spLNet K))
    (M_Net:Mkr P w K mg base 38 "Net" a.cNet ["self","kind","places","roads"] (spNet a)) (D_without:Dn P w K mg base 40 "without" ["net","place"] (spWithout a)) (D_law_between:Dn P w K mg base 35 "_law_between" ["which","roads","i","j"] spBetw)
    (D_law_rounds:Dn P w K mg base 35 "_law_rounds" ["which","m","one"] spLRnd) (D_law_due:Dn P w K mg base 36 "_law_due" ["which","m","many","roads","place"] spLDue) (V_places:Mth P w K mg base 1 (fun _:Unit=>a.cNet) "places" ["self"] (fun _=>spNPlaces a)) (V_roads:Mth P w K mg base 1 (fun _:Unit=>a.cNet) "roads" ["self"] (fun _=>spNRoads a))
    (D_law_same_sums:Dn P w K mg base 40 "_law_same_sums" ["net","smaller","place"] (spSame a)) (D_law_is:Dn P w K mg base 2 "_law_is" ["found","due"] spIs)
    {f:Addr} {fd:FuncData} (F:Fun K "law" "law" (top 59) f fd):FnOk P w K mg base (CXE P w) 42 f fd ["script"] (spLaw K):=by
  refine F.okN sc_law (fun vs H Q E h=>?_) (fun cdv A outer s H vs Q E hr h=>?_)
  · obtain ⟨_,_,rfl,_⟩:=h
    rfl
  · obtain ⟨sa,ns,rfl,hS,hlen,q⟩:=h
    refine ⟨_,(pss_cons (ps_set (i:=1) sc_law.nd rfl (Or.inl rfl) (pe_op op_mod (pe_callD D_law_cell_at (hr.mono (by decide)) rfl passE0 (pa_cons (hs:=st_Name) (pv 0) (pa_cons (hs:=st_Constant) pe_int pa_nil))) pe_int))
      (pss_cons (ps_set (i:=2) sc_law.nd rfl (Or.inl rfl) (pe_op op_add pe_int (pe_op op_mod (pe_op op_fdivX (pe_callD D_law_cell_at (hr.mono (by decide)) rfl passE0 (pa_cons (hs:=st_Name) (pv 0) (pa_cons (hs:=st_Constant) pe_int pa_nil))) pe_int) pe_int)))
      (pss_cons (ps_set (i:=3) sc_law.nd rfl (Or.inl rfl) (pe_callD D_law_net (hr.mono (by decide)) rfl passE0 (pa_cons (hs:=st_Name) (pv 0) (pa_cons (hs:=st_Constant) pe_int (pa_cons (hs:=st_Name) (pv 1) (pa_cons (hs:=st_Name) (pv 2) (pa_cons (hs:=st_Constant) pe_int (pa_cons (hs:=st_Constant) pe_int pa_nil))))))))
      (pss_cons (ps_set (i:=4) sc_law.nd rfl (Or.inl rfl) (pe_callB (call_max2 rfl) rfl T.b_max bt_max (pa_cons (hs:=st_Constant) pe_int (pa_cons (hs:=st_Subscript) (pe_ix ix_tup (pv 3) pe_int (fun _ _=>rfl)) pa_nil))))
      (pss_cons (ps_set (i:=5) sc_law.nd rfl (Or.inl rfl) (pe_ix ix_tup (pv 3) pe_int (fun _ _=>rfl)))
      (pss_cons (ps_set (i:=6) sc_law.nd rfl (Or.inl rfl) (pe_op op_mod (pe_callD D_law_cell_at (hr.mono (by decide)) rfl passE0 (pa_cons (hs:=st_Name) (pv 0) (pa_cons (hs:=st_Constant) pe_int pa_nil))) (pv 4)))
      (pss_cons (ps_set (i:=7) sc_law.nd rfl (Or.inl rfl) (pe_makeD M_Net (hr.mono (by decide)) rfl passE0 (pa_cons (hs:=st_Call) (pe_callD D_law_kind (hr.mono (by decide)) rfl passE0 (pa_cons (hs:=st_Name) (pv 1) (pa_cons (hs:=st_Name) (pv 2) pa_nil))) (pa_cons (hs:=st_Name) (pv 4) (pa_cons (hs:=st_Call) (pe_callTy call_list_of rfl T.b_list bt_list (pa_cons (hs:=st_Name) (pv 5) pa_nil)) pa_nil)))))
      (pss_cons (ps_set (i:=8) sc_law.nd rfl (Or.inl rfl) (pe_callD D_law_rounds (hr.mono (by decide)) rfl passE0 (pa_cons (hs:=st_Name) (pv 1) (pa_cons (hs:=st_Name) (pv 2) (pa_cons (hs:=st_Call) (pe_callD D_law_between (hr.mono (by decide)) rfl passE0 (pa_cons (hs:=st_Name) (pv 1) (pa_cons (hs:=st_Name) (pv 5) (pa_cons (hs:=st_Name) (pv 6) (pa_cons (hs:=st_Name) (pv 6) pa_nil))))) pa_nil)))))
      (pss_cons (ps_tryBE (asg:=[9]) T.k_NoSum rfl rfl ⟨rfl,rfl⟩ (fun _=>rfl) (fun Et pn k xe hx ho=>(pss_one (ps_set (i:=9) sc_law.nd rfl (Or.inl rfl) (pe_callD D_without (hr.mono (by decide)) rfl hx (pa_cons (hs:=st_Name) (pv 7) (pa_cons (hs:=st_Name) (pv 6) pa_nil)))))) (fun x pn=>(pss_one (ps_ret (pe_and (pe_cmpR op_eq (pv 1) pe_int (nomark _)) (pe_one (pe_cmp (pc_isN (pv 8)))))))))
      (pss_cons (ps_if (PW.pt (pw_and (pt_cmpR op_eq (pv 1) pe_int (nomark _)) (pw_and1 (pt_cmp (pc_isN (pv 8)))))) (pss_one (ps_ret pe_bl)) pss_nil)
      (pss_cons (ps_set (i:=10) sc_law.nd rfl (Or.inl rfl) (pe_callD D_law_due (hr.mono (by decide)) rfl passE0 (pa_cons (hs:=st_Name) (pv 1) (pa_cons (hs:=st_Name) (pv 2) (pa_cons (hs:=st_Name) (pv 4) (pa_cons (hs:=st_Name) (pv 5) (pa_cons (hs:=st_Name) (pv 6) pa_nil)))))))
      (pss_cons (ps_set (i:=11) sc_law.nd rfl (Or.inl rfl) (pe_methV0 (pv 9) V_roads (hr.mono (by decide)) passE0))
      (pss_cons (ps_if (PW.pt (pw_or (pt_cmpR op_ne (pe_methV0 (pv 9) V_places (hr.mono (by decide)) passE0) (pe_op op_sub (pv 4) pe_int) (nomark _)) (pw_or1 (pt_cmpR op_ne (pe_callB call_len_seq rfl T.b_len bt_len (pa_cons (hs:=st_Name) (pv 11) pa_nil)) (pe_callB call_len_seq rfl T.b_len bt_len (pa_cons (hs:=st_Name) (pv 10) pa_nil)) (nomark _))))) (pss_one (ps_ret pe_bl)) pss_nil)
      (pss_cons (ps_for PassesOwn.never rfl (pi_range1 rfl T.b_range (pa_cons (hs:=st_Call) (pe_callB call_len_seq rfl T.b_len bt_len (pa_cons (hs:=st_Name) (pv 10) pa_nil)) pa_nil)) (pg_name (i:=12) sc_law.nd rfl (Or.inl rfl)) (pss_one (ps_if (PW.pt (pw_or (pt_cmpR (op_neT hr.units0) (pe_slice sl_tup (pe_ix ix_list (pv 11) (pv 12) (fun _ _=>rfl)) po_none (po_some pe_int)) (pe_slice sl_tup (pe_ix ix_list (pv 10) (pv 12) (fun _ _=>rfl)) po_none (po_some pe_int)) (nomark _)) (pw_or1 (pt_not (pt_val (pe_callD D_law_is (hr.mono (by decide)) rfl passE0 (pa_cons (hs:=st_Subscript) (pe_ix ix_tup (pe_ix ix_list (pv 11) (pv 12) (fun _ _=>rfl)) pe_int (fun _ _=>rfl)) (pa_cons (hs:=st_Subscript) (pe_ix ix_tup (pe_ix ix_list (pv 10) (pv 12) (fun _ _=>rfl)) pe_int (fun _ _=>rfl)) pa_nil))) (fun _=>rfl)))))) (pss_one (ps_ret pe_bl)) pss_nil)))
      (pss_one (ps_ret (pe_and (pe_callD D_law_same_sums (hr.mono (by decide)) rfl passE0 (pa_cons (hs:=st_Name) (pv 7) (pa_cons (hs:=st_Name) (pv 9) (pa_cons (hs:=st_Name) (pv 6) pa_nil)))) (pe_one (pe_cmpR (op_eqAL 0 (hr.al 0)) (pe_methV0 (pv 7) V_roads (hr.mono (by decide)) passE0) (pv 5) (nomark _)))))))))))))))))))),?_⟩
    refine ⟨_,rfl,sa,ns,0,rfl,hS,by decide,_,_,rfl,rfl,(by show (0:Int) < 7; decide),?_⟩
    refine ⟨_,rfl,sa,ns,0,rfl,hS,by decide,_,_,rfl,rfl,⟨by decide,by decide⟩,_,_,rfl,rfl,(by show (0:Int) < 12; decide),_,_,rfl,rfl,?_⟩
    dsimp only
    generalize hc0:ns.getD (0:Int).toNat 0=c0
    have h0:0≤c0 % 7:=Int.emod_nonneg _ (by decide)
    have h7:c0 % 7 < 7:=Int.emod_lt_of_pos _ (by decide)
    have m1:1≤1 + c0 / 7 % 12:=by have:=Int.emod_nonneg (c0 / 7) (show (12:Int)≠0 by decide); omega
    have m2:1 + c0 / 7 % 12≤12:=by have:=Int.emod_lt_of_pos (c0 / 7) (show (0:Int) < 12 by decide); omega
    generalize hwh:c0 % 7=which at h0 h7
    generalize hmm:1 + c0 / 7 % 12=mm at m1 m2
    refine ⟨_,rfl,_,rfl,_,rfl,sa,ns,2,which,mm,7,24,rfl,hS,by decide,h0,h7,m1,m2,by decide,by decide,by decide,fun dpn l xs n0 rs H2 s2 nl e1 e2 hR G0=>?_⟩
    have ok:KdOk (kdOf which mm):=kdOf_ok m1 m2
    have hw:which=kno (kdOf which mm):=(kno_kdOf h0 h7).symm
    have hmi:MIs (kdOf which mm) mm:=mIs rfl m1
    have gn1:=G0.n1
    have gn2:=G0.n2
    obtain ⟨m,hm⟩:∃ m,max 2 n0=m + 1:=⟨max 2 n0 - 1,by omega⟩
    have mlo:1≤m:=by omega
    have mhi:m≤6:=by omega
    have G:=good_more (most':=7) (n':=m + 1) G0 (by omega) (by omega)
    refine ⟨_,rfl,dpn,_,_,_,rfl,rfl,SqT.of e1,rfl,?_⟩
    refine ⟨2,(n0:Int),rfl,?_⟩
    dsimp only [gName]
    rw [show (if (n0:Int) > 2 then (n0:Int) else 2)=((m + 1:Nat):Int) by split <;> omega]
    refine ⟨_,rfl,dpn,_,_,_,rfl,rfl,SqT.of e1,rfl,?_⟩
    refine ⟨_,rfl,sa,ns,1,rfl,same_lst s2 hS,by decide,_,rfl,_,_,rfl,rfl,(by show (0:Int) < ((m + 1:Nat):Int); omega),?_⟩
    obtain ⟨p,ep,hp⟩:=modlt (i:=ns.getD (1:Int).toNat 0) (m:=m + 1) (by omega)
    dsimp only [gName]
    rw [ep]
    refine ⟨_,rfl,_,rfl,which,mm,rfl,h0,h7,m1,m2,fun kp H3 s3 k3=>?_⟩
    clear e1 hwh hmm hc0 G0 gn1 gn2 hm s2 hS
    generalize kdOf which mm=kd at ok hw hmi G k3
    subst hw
    obtain ⟨es,rfl,Gr⟩:=G.graph (by decide)
    have b8:(8:Nat) < 10 ^ 62:=by decide
    have glen:=G.len
    rw [List.length_map] at glen
    have h64:es.length≤64:=by omega
    have hxl:xs.length=es.length:=by rw [hR.length,List.length_map]
    refine ⟨_,rfl,_,rfl,l,xs,rfl,.inl (SqL.of (s3 _ _ e2)),fun l2 nl2=>?_⟩
    have u2:=same_one (o:=.lst xs) nl2
    refine mk_any (k3.same u2) (hasK kd) ok upd_same ((hR.same s3).same u2) (log2_small (by omega)) (fun _ _=>good_sm G) (fun _ _ np tp H5 s5 _ N=>?_) (fun z=>by rw [G.yes (by decide) (by decide)] at z; cases z) (fun _ z=>by rw [G.worths] at z; cases z)
    rw [Int.toNat_natCast] at N
    have s25:Same H2 H5:=(s3.trans u2).trans s5
    have l5:=s25 _ _ e2
    have r5:=hR.same s25
    clear s3 u2 s5 s25 e2 hR nl nl2 k3
    have GT:=Gr.grT (ok:=ok) h64
    have smE:Sm 52000 (enc kd (edgeM (ks kd ok) es p p)):=by
      have:=GT.sum es.length p p
      rw [List.take_length] at this; exact this
    dsimp only [gName]
    refine ⟨_,rfl,_,rfl,_,rfl,_,rfl,_,rfl,_,rfl,kd,ok,l,m + 1,p,p,xs,es,rfl,l5,r5,GT,fun v1 H6 s6 w6=>?_⟩
    refine ⟨kd,ok,mm,v1,_,rfl,hmi,w6,smE.mono (by decide),fun v2 H7 s7 w7=>?_⟩
    have s57:=s6.trans s7
    have N7:=N.same s57
    have l7:=s57 _ _ l5
    have r7:=r5.same s57
    clear w6 s6 s7 s57 N l5 r5
    dsimp only [gName]
    refine seqK (fun σ H'=>∃ sp tp' ys r,σ=[some (.ref sa),some (.int (kno kd)),some (.int mm),some (.ref dpn),some (.int ((m + 1:Nat):Int)),some (.ref l),some (.int (p:Int)),some (.ref np),some v2,some (.ref sp),none,none,none]∧(ks kd ok).star (edgeM (ks kd ok) es p p)=some r∧Same H7 H'∧NetIs a H' sp kd m kp tp' ys ((outE ok es p m r).map (Edge.road kd))) (fun nx kk=>?_) ?_
    · refine ⟨fun cls _ H'=>cls=.ref a.cNoSum∧(ks kd ok).star (edgeM (ks kd ok) es p p)=none,fun pn k xe=>?_,?_⟩
      · exact ⟨_,rfl,_,rfl,np,kp,tp,kd,ok,m,p,xs,es,rfl,N7,hasK kd,Gr,h64,hp,mlo,mhi,fun hn H' _=>⟨rfl,hn⟩,fun r hr' sp tp' ys H' s' N'=>kk _ _ ⟨sp,tp',ys,r,rfl,hr',s',N'⟩⟩
      · rintro cls H' x ⟨rfl,hn⟩ hx
        refine ⟨T.exm_NoSum_NoSum,fun pn=>?_⟩
        rw [hn] at w7
        obtain rfl:v2=.non:=w7
        refine ⟨_,rfl,rfl,_,rfl,iteEqI (fun _=>?_) (fun z=>absurd (by rw [star_none hn]; rfl) z)⟩
        exact ⟨_,rfl,q _⟩
    rintro σ H8 ⟨sp,tp',ys,r,rfl,hr',s8,N'⟩
    rw [hr'] at w7
    have w8:IsW H8 v2 (enc kd r):=IsW.same s8 (show IsW H7 v2 (enc kd r) from w7)
    have N8:=N7.same s8
    have l8:=s8 _ _ l7
    have r8:=r7.same s8
    refine seqK (fun σ H'=>σ=[some (.ref sa),some (.int (kno kd)),some (.int mm),some (.ref dpn),some (.int ((m + 1:Nat):Int)),some (.ref l),some (.int (p:Int)),some (.ref np),some v2,some (.ref sp),none,none,none]∧H8=H') (fun nx kk=>?_) ?_
    · refine ⟨_,rfl,rfl,_,rfl,iteEqI (fun c=>?_) (fun c=>iteF (kk _ _ ⟨rfl,rfl⟩))⟩
      refine ⟨_,rfl,_,rfl,iteD (fun z=>?_) (fun _=>kk _ _ ⟨rfl,rfl⟩)⟩
      subst z
      exfalso
      cases kd with
      | chances=>obtain ⟨r1,z,_⟩:=isW_pair w8; cases z
      | rests n=>exact absurd (show (6:Int)=4 from c) (by decide)
      | _=>exact absurd c (by decide)
    rintro σ H' ⟨rfl,rfl⟩
    have hrlen:ys.length=(outE ok es p m r).length:=by rw [N'.rds.length,List.length_map]
    have hol:(outE ok es p m r).length≤36:=Nat.le_trans (matE_len ok m) (Nat.mul_le_mul mhi mhi)
    refine ⟨_,rfl,_,rfl,_,rfl,_,rfl,_,rfl,kd,ok,mm,l,m,p,xs,es,r,rfl,hmi,l8,r8,Gr,h64,hp,mhi,hr',fun ld zs H9 s9 hld hzd=>?_⟩
    have hzlen:zs.length=(outE ok es p m r).length:=by rw [hzd.length,List.length_map]
    obtain ⟨dx',hx'⟩:=N'.ins
    obtain ⟨dx,hx⟩:=N8.ins
    refine ⟨_,rfl,(),sp,dx',_,rfl,s9 _ _ hx',rfl,sp,kp,tp',kd,m,ys,_,rfl,N'.same s9,fun lfd nlf=>?_⟩
    have u10:=same_one (o:=.lst ys) nlf
    have s10:=s9.trans u10
    have hld10:=u10 _ _ hld
    have hzd10:=hzd.same u10
    have hfd10:=upd_same (H:=H9) (a:=lfd) (o:=.lst ys)
    generalize upd H9 lfd (.lst ys)=H10 at u10 s10 hld10 hzd10 hfd10
    have N'10:=N'.same s10
    have N10:=N8.same s10
    have hy10:=N'10.rds
    dsimp only [gName]
    refine seqK (fun σ H'=>σ=[some (.ref sa),some (.int (kno kd)),some (.int mm),some (.ref dpn),some (.int ((m + 1:Nat):Int)),some (.ref l),some (.int (p:Int)),some (.ref np),some v2,some (.ref sp),some (.ref ld),some (.ref lfd),none]∧H10=H') (fun nx kk=>?_) ?_
    · refine ⟨_,rfl,(),sp,dx',_,rfl,s10 _ _ hx',rfl,sp,kp,tp',kd,m,ys,_,rfl,N'10,_,rfl,_,_,rfl,rfl,rfl,_,rfl,iteNeI (fun c=>absurd (by omega) c) (fun _=>?_)⟩
      exact ⟨_,rfl,lfd,ys,rfl,.inl (SqL.of hfd10),_,rfl,ld,zs,rfl,.inl (SqL.of hld10),rfl,_,rfl,iteNeI (fun c=>absurd (by rw [hrlen,hzlen]) c) (fun _=>kk _ _ ⟨rfl,rfl⟩)⟩
    rintro σ H' ⟨rfl,rfl⟩
    refine seqK (fun σ H'=>∃ o,σ=[some (.ref sa),some (.int (kno kd)),some (.int mm),some (.ref dpn),some (.int ((m + 1:Nat):Int)),some (.ref l),some (.int (p:Int)),some (.ref np),some v2,some (.ref sp),some (.ref ld),some (.ref lfd),o]∧Same H10 H') (fun nx kk=>?_) ?_
    · refine ⟨_,rfl,ld,zs,rfl,.inl (SqL.of hld10),(zs.length:Int),rfl,by omega,by omega,for_range (n:=(zs.length:Int).toNat) (fun i σ H'=>∃ o,σ=[some (.ref sa),some (.int (kno kd)),some (.int mm),some (.ref dpn),some (.int ((m + 1:Nat):Int)),some (.ref l),some (.int (p:Int)),some (.ref np),some v2,some (.ref sp),some (.ref ld),some (.ref lfd),o]∧Same H10 H') ⟨_,rfl,Same.refl _⟩ ?_ (fun σ H' h=>kk _ _ h)⟩
      rintro k σ H' hk ⟨o,rfl,s'⟩
      have hk:k < zs.length:=by omega
      have ek:(0 + (k:Int))=((k:Nat):Int):=by omega
      dsimp only [gName]
      rw [ek]
      have ez:zs[k]?=some zs[k]:=List.getElem?_eq_getElem hk
      have ey:ys[k]?=some (ys[k]'(by omega)):=List.getElem?_eq_getElem (by omega)
      obtain ⟨rd,erd,pz,wz,gz,tz,fz⟩:=pget hzd10 ez
      obtain ⟨rd',erd',py,wy,gy,ty,fy⟩:=pget hy10 ey
      rw [erd] at erd'
      obtain rfl:=Option.some.inj erd'
      rw [gz] at ez
      rw [gy] at ey
      refine ⟨_,rfl,_,rfl,lfd,_,_,_,rfl,rfl,SqL.of (s' _ _ hfd10),atI_nat ey,2,rfl,py,_,rfl,SqT.of (s' _ _ ty),(show ¬ (HT.sIx 3 0 none=0∧HT.sIx 3 3 (some 2)=3) by decide),fun q1 nq1=>?_⟩
      have v1':=same_one (o:=.tup (cutV [.int rd.f,.int rd.t,wy] none (some 2))) nq1
      have sA:=s'.trans v1'
      have zA:=upd_same (H:=H') (a:=q1) (o:=.tup (cutV [.int rd.f,.int rd.t,wy] none (some 2)))
      generalize upd H' q1 (.tup (cutV [.int rd.f,.int rd.t,wy] none (some 2)))=HA at v1' sA zA
      refine ⟨_,rfl,_,rfl,ld,_,_,_,rfl,rfl,SqL.of (sA _ _ hld10),atI_nat ez,2,rfl,pz,_,rfl,SqT.of (sA _ _ tz),(show ¬ (HT.sIx 3 0 none=0∧HT.sIx 3 3 (some 2)=3) by decide),fun q2 nq2=>?_⟩
      have v2':=same_one (o:=.tup (cutV [.int rd.f,.int rd.t,wz] none (some 2))) nq2
      have sB:=sA.trans v2'
      have zB:=upd_same (H:=HA) (a:=q2) (o:=.tup (cutV [.int rd.f,.int rd.t,wz] none (some 2)))
      have zA2:=v2' _ _ zA
      generalize upd HA q2 (.tup (cutV [.int rd.f,.int rd.t,wz] none (some 2)))=HB at v2' sB zB zA2
      rw [cut_two] at zA2 zB
      refine ⟨q1,q2,_,_,rfl,rfl,SqT.of zA2,SqT.of zB,rfl,rfl,false,(by simp [eqVs,eqV]),iteF ?_⟩
      refine ⟨_,rfl,_,rfl,lfd,_,_,_,rfl,rfl,SqL.of (sB _ _ hfd10),atI_nat ey,py,_,_,_,rfl,rfl,SqT.of (sB _ _ ty),rfl,?_⟩
      refine ⟨_,rfl,_,rfl,ld,_,_,_,rfl,rfl,SqL.of (sB _ _ hld10),atI_nat ez,pz,_,_,_,rfl,rfl,SqT.of (sB _ _ tz),rfl,?_⟩
      exact ⟨wy,wz,_,rfl,fy.same sB,fz.same sB,_,rfl,iteF ⟨_,rfl,sB⟩⟩
    rintro σ H11 ⟨o,rfl,s11⟩
    refine ⟨_,rfl,_,rfl,_,rfl,np,sp,kp,tp,tp',kd,ok,m,p,xs,ys,es,r,rfl,N10.same s11,N'10.same s11,Gr,h64,hp,mlo,mhi,hr',fun H12 s12=>⟨_,rfl,iteT ?_⟩⟩
    have sE:=(s10.trans s11).trans s12
    refine ⟨_,rfl,(),np,dx,_,rfl,sE _ _ hx,rfl,np,kp,tp,kd,m + 1,xs,_,rfl,N8.same sE,fun l4 nl4=>?_⟩
    have u4:=same_one (o:=.lst xs) nl4
    exact ⟨_,rfl,l4,l,xs,xs,rfl,rfl,SqL.of upd_same,SqL.of (u4 _ _ (sE _ _ l8)),alike_self (rds_ref r8),q _⟩
end
end K13
namespace K13
open PySem L2 Ws
seal PE PT PW PA PC PS PSs PG PGs PI PO
section
theorem all_mk {l:PySem.W.OpenLaw} {w:World} {K:PySem.W.Frag} {h:Heap} {mg:Str→Option Value} {fa:Addr} (hP:l.prog.given.tree=none) (X:K.In h) (G:h.Ns mainGlobals mg) (hfa:mg "law"=some (.ref fa))
    {c_SumError:Addr} {c_NoNet:Addr} {c_NoWorth:Addr} {c_NoPlace:Addr} {c_NoSum:Addr} {c_Kind:Addr} {c_Fewest:Addr} {c_Widest:Addr} {c_Counted:Addr} {c_Likeliest:Addr} {c_Chances:Addr} {c_Musts:Addr} {c_Rests:Addr} {c_Net:Addr} {t_WIDEST:Tok} {t_MOST_RESTS:Tok} {t_MOST_PLACES:Tok} {t_MOST_ROADS:Tok} {f_Ddivisor:Addr} {oc_Ddivisor:Value} {kV_Ddivisor:Value} {dc_Ddivisor:Value} {pm_Ddivisor:Value} {cd_Ddivisor:Value} {ct_Ddivisor:Value} {od_Ddivisor:Option Addr} {an_Ddivisor:Option Addr} {sl_Ddivisor:Array (Option Value)} {f_MRests_init:Addr} {oc_MRests_init:Value} {kV_MRests_init:Value} {dc_MRests_init:Value} {pm_MRests_init:Value} {cd_MRests_init:Value} {ct_MRests_init:Value} {od_MRests_init:Option Addr} {an_MRests_init:Option Addr} {sl_MRests_init:Array (Option Value)} {f_Dlaw_cell_at:Addr} {oc_Dlaw_cell_at:Value} {kV_Dlaw_cell_at:Value} {dc_Dlaw_cell_at:Value} {pm_Dlaw_cell_at:Value} {cd_Dlaw_cell_at:Value} {ct_Dlaw_cell_at:Value} {od_Dlaw_cell_at:Option Addr} {an_Dlaw_cell_at:Option Addr} {sl_Dlaw_cell_at:Array (Option Value)} {f_Dlaw_kind:Addr} {oc_Dlaw_kind:Value} {kV_Dlaw_kind:Value} {dc_Dlaw_kind:Value} {pm_Dlaw_kind:Value} {cd_Dlaw_kind:Value} {ct_Dlaw_kind:Value} {od_Dlaw_kind:Option Addr} {an_Dlaw_kind:Option Addr} {sl_Dlaw_kind:Array (Option Value)} {f_Dlaw_share:Addr} {oc_Dlaw_share:Value} {kV_Dlaw_share:Value} {dc_Dlaw_share:Value} {pm_Dlaw_share:Value} {cd_Dlaw_share:Value} {ct_Dlaw_share:Value} {od_Dlaw_share:Option Addr} {an_Dlaw_share:Option Addr} {sl_Dlaw_share:Array (Option Value)} {f_Dlaw_none:Addr} {oc_Dlaw_none:Value} {kV_Dlaw_none:Value} {dc_Dlaw_none:Value} {pm_Dlaw_none:Value} {cd_Dlaw_none:Value} {ct_Dlaw_none:Value} {od_Dlaw_none:Option Addr} {an_Dlaw_none:Option Addr} {sl_Dlaw_none:Array (Option Value)} {f_Dlaw_rest:Addr} {oc_Dlaw_rest:Value} {kV_Dlaw_rest:Value} {dc_Dlaw_rest:Value} {pm_Dlaw_rest:Value} {cd_Dlaw_rest:Value} {ct_Dlaw_rest:Value} {od_Dlaw_rest:Option Addr} {an_Dlaw_rest:Option Addr} {sl_Dlaw_rest:Array (Option Value)} {f_Dlaw_worth:Addr} {oc_Dlaw_worth:Value} {kV_Dlaw_worth:Value} {dc_Dlaw_worth:Value} {pm_Dlaw_worth:Value} {cd_Dlaw_worth:Value} {ct_Dlaw_worth:Value} {od_Dlaw_worth:Option Addr} {an_Dlaw_worth:Option Addr} {sl_Dlaw_worth:Array (Option Value)} {f_Dlowest:Addr} {oc_Dlowest:Value} {kV_Dlowest:Value} {dc_Dlowest:Value} {pm_Dlowest:Value} {cd_Dlowest:Value} {ct_Dlowest:Value} {od_Dlowest:Option Addr} {an_Dlowest:Option Addr} {sl_Dlowest:Array (Option Value)} {f_Dadded:Addr} {oc_Dadded:Value} {kV_Dadded:Value} {dc_Dadded:Value} {pm_Dadded:Value} {cd_Dadded:Value} {ct_Dadded:Value} {od_Dadded:Option Addr} {an_Dadded:Option Addr} {sl_Dadded:Array (Option Value)} {f_Dmultiplied:Addr} {oc_Dmultiplied:Value} {kV_Dmultiplied:Value} {dc_Dmultiplied:Value} {pm_Dmultiplied:Value} {cd_Dmultiplied:Value} {ct_Dmultiplied:Value} {od_Dmultiplied:Option Addr} {an_Dmultiplied:Option Addr} {sl_Dmultiplied:Array (Option Value)} {f_Dgreater:Addr} {oc_Dgreater:Value} {kV_Dgreater:Value} {dc_Dgreater:Value} {pm_Dgreater:Value} {cd_Dgreater:Value} {ct_Dgreater:Value} {od_Dgreater:Option Addr} {an_Dgreater:Option Addr} {sl_Dgreater:Array (Option Value)} {f_Dlacking_to_one:Addr} {oc_Dlacking_to_one:Value} {kV_Dlacking_to_one:Value} {dc_Dlacking_to_one:Value} {pm_Dlacking_to_one:Value} {cd_Dlacking_to_one:Value} {ct_Dlacking_to_one:Value} {od_Dlacking_to_one:Option Addr} {an_Dlacking_to_one:Option Addr} {sl_Dlacking_to_one:Array (Option Value)} {f_Draised:Addr} {oc_Draised:Value} {kV_Draised:Value} {dc_Draised:Value} {pm_Draised:Value} {cd_Draised:Value} {ct_Draised:Value} {od_Draised:Option Addr} {an_Draised:Option Addr} {sl_Draised:Array (Option Value)} {f_MFewest_none:Addr} {oc_MFewest_none:Value} {kV_MFewest_none:Value} {dc_MFewest_none:Value} {pm_MFewest_none:Value} {cd_MFewest_none:Value} {ct_MFewest_none:Value} {od_MFewest_none:Option Addr} {an_MFewest_none:Option Addr} {sl_MFewest_none:Array (Option Value)} {f_MWidest_none:Addr} {oc_MWidest_none:Value} {kV_MWidest_none:Value} {dc_MWidest_none:Value} {pm_MWidest_none:Value} {cd_MWidest_none:Value} {ct_MWidest_none:Value} {od_MWidest_none:Option Addr} {an_MWidest_none:Option Addr} {sl_MWidest_none:Array (Option Value)} {f_MCounted_none:Addr} {oc_MCounted_none:Value} {kV_MCounted_none:Value} {dc_MCounted_none:Value} {pm_MCounted_none:Value} {cd_MCounted_none:Value} {ct_MCounted_none:Value} {od_MCounted_none:Option Addr} {an_MCounted_none:Option Addr} {sl_MCounted_none:Array (Option Value)} {f_MLikeliest_none:Addr} {oc_MLikeliest_none:Value} {kV_MLikeliest_none:Value} {dc_MLikeliest_none:Value} {pm_MLikeliest_none:Value} {cd_MLikeliest_none:Value} {ct_MLikeliest_none:Value} {od_MLikeliest_none:Option Addr} {an_MLikeliest_none:Option Addr} {sl_MLikeliest_none:Array (Option Value)} {f_MChances_none:Addr} {oc_MChances_none:Value} {kV_MChances_none:Value} {dc_MChances_none:Value} {pm_MChances_none:Value} {cd_MChances_none:Value} {ct_MChances_none:Value} {od_MChances_none:Option Addr} {an_MChances_none:Option Addr} {sl_MChances_none:Array (Option Value)} {f_MMusts_none:Addr} {oc_MMusts_none:Value} {kV_MMusts_none:Value} {dc_MMusts_none:Value} {pm_MMusts_none:Value} {cd_MMusts_none:Value} {ct_MMusts_none:Value} {od_MMusts_none:Option Addr} {an_MMusts_none:Option Addr} {sl_MMusts_none:Array (Option Value)} {f_MRests_none:Addr} {oc_MRests_none:Value} {kV_MRests_none:Value} {dc_MRests_none:Value} {pm_MRests_none:Value} {cd_MRests_none:Value} {ct_MRests_none:Value} {od_MRests_none:Option Addr} {an_MRests_none:Option Addr} {sl_MRests_none:Array (Option Value)} {f_MFewest_rest:Addr} {oc_MFewest_rest:Value} {kV_MFewest_rest:Value} {dc_MFewest_rest:Value} {pm_MFewest_rest:Value} {cd_MFewest_rest:Value} {ct_MFewest_rest:Value} {od_MFewest_rest:Option Addr} {an_MFewest_rest:Option Addr} {sl_MFewest_rest:Array (Option Value)} {f_MWidest_rest:Addr} {oc_MWidest_rest:Value} {kV_MWidest_rest:Value} {dc_MWidest_rest:Value} {pm_MWidest_rest:Value} {cd_MWidest_rest:Value} {ct_MWidest_rest:Value} {od_MWidest_rest:Option Addr} {an_MWidest_rest:Option Addr} {sl_MWidest_rest:Array (Option Value)} {f_MCounted_rest:Addr} {oc_MCounted_rest:Value} {kV_MCounted_rest:Value} {dc_MCounted_rest:Value} {pm_MCounted_rest:Value} {cd_MCounted_rest:Value} {ct_MCounted_rest:Value} {od_MCounted_rest:Option Addr} {an_MCounted_rest:Option Addr} {sl_MCounted_rest:Array (Option Value)} {f_MLikeliest_rest:Addr} {oc_MLikeliest_rest:Value} {kV_MLikeliest_rest:Value} {dc_MLikeliest_rest:Value} {pm_MLikeliest_rest:Value} {cd_MLikeliest_rest:Value} {ct_MLikeliest_rest:Value} {od_MLikeliest_rest:Option Addr} {an_MLikeliest_rest:Option Addr} {sl_MLikeliest_rest:Array (Option Value)} {f_MChances_rest:Addr} {oc_MChances_rest:Value} {kV_MChances_rest:Value} {dc_MChances_rest:Value} {pm_MChances_rest:Value} {cd_MChances_rest:Value} {ct_MChances_rest:Value} {od_MChances_rest:Option Addr} {an_MChances_rest:Option Addr} {sl_MChances_rest:Array (Option Value)} {f_MMusts_rest:Addr} {oc_MMusts_rest:Value} {kV_MMusts_rest:Value} {dc_MMusts_rest:Value} {pm_MMusts_rest:Value} {cd_MMusts_rest:Value} {ct_MMusts_rest:Value} {od_MMusts_rest:Option Addr} {an_MMusts_rest:Option Addr} {sl_MMusts_rest:Array (Option Value)} {f_MRests_rest:Addr} {oc_MRests_rest:Value} {kV_MRests_rest:Value} {dc_MRests_rest:Value} {pm_MRests_rest:Value} {cd_MRests_rest:Value} {ct_MRests_rest:Value} {od_MRests_rest:Option Addr} {an_MRests_rest:Option Addr} {sl_MRests_rest:Array (Option Value)} {f_MFewest_together:Addr} {oc_MFewest_together:Value} {kV_MFewest_together:Value} {dc_MFewest_together:Value} {pm_MFewest_together:Value} {cd_MFewest_together:Value} {ct_MFewest_together:Value} {od_MFewest_together:Option Addr} {an_MFewest_together:Option Addr} {sl_MFewest_together:Array (Option Value)} {f_MWidest_together:Addr} {oc_MWidest_together:Value} {kV_MWidest_together:Value} {dc_MWidest_together:Value} {pm_MWidest_together:Value} {cd_MWidest_together:Value} {ct_MWidest_together:Value} {od_MWidest_together:Option Addr} {an_MWidest_together:Option Addr} {sl_MWidest_together:Array (Option Value)} {f_MCounted_together:Addr} {oc_MCounted_together:Value} {kV_MCounted_together:Value} {dc_MCounted_together:Value} {pm_MCounted_together:Value} {cd_MCounted_together:Value} {ct_MCounted_together:Value} {od_MCounted_together:Option Addr} {an_MCounted_together:Option Addr} {sl_MCounted_together:Array (Option Value)} {f_MLikeliest_together:Addr} {oc_MLikeliest_together:Value} {kV_MLikeliest_together:Value} {dc_MLikeliest_together:Value} {pm_MLikeliest_together:Value} {cd_MLikeliest_together:Value} {ct_MLikeliest_together:Value} {od_MLikeliest_together:Option Addr} {an_MLikeliest_together:Option Addr} {sl_MLikeliest_together:Array (Option Value)} {f_MChances_together:Addr} {oc_MChances_together:Value} {kV_MChances_together:Value} {dc_MChances_together:Value} {pm_MChances_together:Value} {cd_MChances_together:Value} {ct_MChances_together:Value} {od_MChances_together:Option Addr} {an_MChances_together:Option Addr} {sl_MChances_together:Array (Option Value)} {f_MMusts_together:Addr} {oc_MMusts_together:Value} {kV_MMusts_together:Value} {dc_MMusts_together:Value} {pm_MMusts_together:Value} {cd_MMusts_together:Value} {ct_MMusts_together:Value} {od_MMusts_together:Option Addr} {an_MMusts_together:Option Addr} {sl_MMusts_together:Array (Option Value)} {f_MRests_together:Addr} {oc_MRests_together:Value} {kV_MRests_together:Value} {dc_MRests_together:Value} {pm_MRests_together:Value} {cd_MRests_together:Value} {ct_MRests_together:Value} {od_MRests_together:Option Addr} {an_MRests_together:Option Addr} {sl_MRests_together:Array (Option Value)} {f_MFewest_behind:Addr} {oc_MFewest_behind:Value} {kV_MFewest_behind:Value} {dc_MFewest_behind:Value} {pm_MFewest_behind:Value} {cd_MFewest_behind:Value} {ct_MFewest_behind:Value} {od_MFewest_behind:Option Addr} {an_MFewest_behind:Option Addr} {sl_MFewest_behind:Array (Option Value)} {f_MWidest_behind:Addr} {oc_MWidest_behind:Value} {kV_MWidest_behind:Value} {dc_MWidest_behind:Value} {pm_MWidest_behind:Value} {cd_MWidest_behind:Value} {ct_MWidest_behind:Value} {od_MWidest_behind:Option Addr} {an_MWidest_behind:Option Addr} {sl_MWidest_behind:Array (Option Value)} {f_MCounted_behind:Addr} {oc_MCounted_behind:Value} {kV_MCounted_behind:Value} {dc_MCounted_behind:Value} {pm_MCounted_behind:Value} {cd_MCounted_behind:Value} {ct_MCounted_behind:Value} {od_MCounted_behind:Option Addr} {an_MCounted_behind:Option Addr} {sl_MCounted_behind:Array (Option Value)} {f_MLikeliest_behind:Addr} {oc_MLikeliest_behind:Value} {kV_MLikeliest_behind:Value} {dc_MLikeliest_behind:Value} {pm_MLikeliest_behind:Value} {cd_MLikeliest_behind:Value} {ct_MLikeliest_behind:Value} {od_MLikeliest_behind:Option Addr} {an_MLikeliest_behind:Option Addr} {sl_MLikeliest_behind:Array (Option Value)} {f_MChances_behind:Addr} {oc_MChances_behind:Value} {kV_MChances_behind:Value} {dc_MChances_behind:Value} {pm_MChances_behind:Value} {cd_MChances_behind:Value} {ct_MChances_behind:Value} {od_MChances_behind:Option Addr} {an_MChances_behind:Option Addr} {sl_MChances_behind:Array (Option Value)} {f_MMusts_behind:Addr} {oc_MMusts_behind:Value} {kV_MMusts_behind:Value} {dc_MMusts_behind:Value} {pm_MMusts_behind:Value} {cd_MMusts_behind:Value} {ct_MMusts_behind:Value} {od_MMusts_behind:Option Addr} {an_MMusts_behind:Option Addr} {sl_MMusts_behind:Array (Option Value)} {f_MRests_behind:Addr} {oc_MRests_behind:Value} {kV_MRests_behind:Value} {dc_MRests_behind:Value} {pm_MRests_behind:Value} {cd_MRests_behind:Value} {ct_MRests_behind:Value} {od_MRests_behind:Option Addr} {an_MRests_behind:Option Addr} {sl_MRests_behind:Array (Option Value)} {f_MFewest_rounds:Addr} {oc_MFewest_rounds:Value} {kV_MFewest_rounds:Value} {dc_MFewest_rounds:Value} {pm_MFewest_rounds:Value} {cd_MFewest_rounds:Value} {ct_MFewest_rounds:Value} {od_MFewest_rounds:Option Addr} {an_MFewest_rounds:Option Addr} {sl_MFewest_rounds:Array (Option Value)} {f_MWidest_rounds:Addr} {oc_MWidest_rounds:Value} {kV_MWidest_rounds:Value} {dc_MWidest_rounds:Value} {pm_MWidest_rounds:Value} {cd_MWidest_rounds:Value} {ct_MWidest_rounds:Value} {od_MWidest_rounds:Option Addr} {an_MWidest_rounds:Option Addr} {sl_MWidest_rounds:Array (Option Value)} {f_MCounted_rounds:Addr} {oc_MCounted_rounds:Value} {kV_MCounted_rounds:Value} {dc_MCounted_rounds:Value} {pm_MCounted_rounds:Value} {cd_MCounted_rounds:Value} {ct_MCounted_rounds:Value} {od_MCounted_rounds:Option Addr} {an_MCounted_rounds:Option Addr} {sl_MCounted_rounds:Array (Option Value)} {f_MLikeliest_rounds:Addr} {oc_MLikeliest_rounds:Value} {kV_MLikeliest_rounds:Value} {dc_MLikeliest_rounds:Value} {pm_MLikeliest_rounds:Value} {cd_MLikeliest_rounds:Value} {ct_MLikeliest_rounds:Value} {od_MLikeliest_rounds:Option Addr} {an_MLikeliest_rounds:Option Addr} {sl_MLikeliest_rounds:Array (Option Value)} {f_MChances_rounds:Addr} {oc_MChances_rounds:Value} {kV_MChances_rounds:Value} {dc_MChances_rounds:Value} {pm_MChances_rounds:Value} {cd_MChances_rounds:Value} {ct_MChances_rounds:Value} {od_MChances_rounds:Option Addr} {an_MChances_rounds:Option Addr} {sl_MChances_rounds:Array (Option Value)} {f_MMusts_rounds:Addr} {oc_MMusts_rounds:Value} {kV_MMusts_rounds:Value} {dc_MMusts_rounds:Value} {pm_MMusts_rounds:Value} {cd_MMusts_rounds:Value} {ct_MMusts_rounds:Value} {od_MMusts_rounds:Option Addr} {an_MMusts_rounds:Option Addr} {sl_MMusts_rounds:Array (Option Value)} {f_MRests_rounds:Addr} {oc_MRests_rounds:Value} {kV_MRests_rounds:Value} {dc_MRests_rounds:Value} {pm_MRests_rounds:Value} {cd_MRests_rounds:Value} {ct_MRests_rounds:Value} {od_MRests_rounds:Option Addr} {an_MRests_rounds:Option Addr} {sl_MRests_rounds:Array (Option Value)} {f_Dis_from:Addr} {oc_Dis_from:Value} {kV_Dis_from:Value} {dc_Dis_from:Value} {pm_Dis_from:Value} {cd_Dis_from:Value} {ct_Dis_from:Value} {od_Dis_from:Option Addr} {an_Dis_from:Option Addr} {sl_Dis_from:Array (Option Value)} {f_Dis_share:Addr} {oc_Dis_share:Value} {kV_Dis_share:Value} {dc_Dis_share:Value} {pm_Dis_share:Value} {cd_Dis_share:Value} {ct_Dis_share:Value} {od_Dis_share:Option Addr} {an_Dis_share:Option Addr} {sl_Dis_share:Array (Option Value)} {f_MFewest_is_worth:Addr} {oc_MFewest_is_worth:Value} {kV_MFewest_is_worth:Value} {dc_MFewest_is_worth:Value} {pm_MFewest_is_worth:Value} {cd_MFewest_is_worth:Value} {ct_MFewest_is_worth:Value} {od_MFewest_is_worth:Option Addr} {an_MFewest_is_worth:Option Addr} {sl_MFewest_is_worth:Array (Option Value)} {f_MWidest_is_worth:Addr} {oc_MWidest_is_worth:Value} {kV_MWidest_is_worth:Value} {dc_MWidest_is_worth:Value} {pm_MWidest_is_worth:Value} {cd_MWidest_is_worth:Value} {ct_MWidest_is_worth:Value} {od_MWidest_is_worth:Option Addr} {an_MWidest_is_worth:Option Addr} {sl_MWidest_is_worth:Array (Option Value)} {f_MCounted_is_worth:Addr} {oc_MCounted_is_worth:Value} {kV_MCounted_is_worth:Value} {dc_MCounted_is_worth:Value} {pm_MCounted_is_worth:Value} {cd_MCounted_is_worth:Value} {ct_MCounted_is_worth:Value} {od_MCounted_is_worth:Option Addr} {an_MCounted_is_worth:Option Addr} {sl_MCounted_is_worth:Array (Option Value)} {f_MLikeliest_is_worth:Addr} {oc_MLikeliest_is_worth:Value} {kV_MLikeliest_is_worth:Value} {dc_MLikeliest_is_worth:Value} {pm_MLikeliest_is_worth:Value} {cd_MLikeliest_is_worth:Value} {ct_MLikeliest_is_worth:Value} {od_MLikeliest_is_worth:Option Addr} {an_MLikeliest_is_worth:Option Addr} {sl_MLikeliest_is_worth:Array (Option Value)} {f_MChances_is_worth:Addr} {oc_MChances_is_worth:Value} {kV_MChances_is_worth:Value} {dc_MChances_is_worth:Value} {pm_MChances_is_worth:Value} {cd_MChances_is_worth:Value} {ct_MChances_is_worth:Value} {od_MChances_is_worth:Option Addr} {an_MChances_is_worth:Option Addr} {sl_MChances_is_worth:Array (Option Value)} {f_MMusts_is_worth:Addr} {oc_MMusts_is_worth:Value} {kV_MMusts_is_worth:Value} {dc_MMusts_is_worth:Value} {pm_MMusts_is_worth:Value} {cd_MMusts_is_worth:Value} {ct_MMusts_is_worth:Value} {od_MMusts_is_worth:Option Addr} {an_MMusts_is_worth:Option Addr} {sl_MMusts_is_worth:Array (Option Value)} {f_MRests_is_worth:Addr} {oc_MRests_is_worth:Value} {kV_MRests_is_worth:Value} {dc_MRests_is_worth:Value} {pm_MRests_is_worth:Value} {cd_MRests_is_worth:Value} {ct_MRests_is_worth:Value} {od_MRests_is_worth:Option Addr} {an_MRests_is_worth:Option Addr} {sl_MRests_is_worth:Array (Option Value)} {f_Dcheck_numbers:Addr} {oc_Dcheck_numbers:Value} {kV_Dcheck_numbers:Value} {dc_Dcheck_numbers:Value} {pm_Dcheck_numbers:Value} {cd_Dcheck_numbers:Value} {ct_Dcheck_numbers:Value} {od_Dcheck_numbers:Option Addr} {an_Dcheck_numbers:Option Addr} {sl_Dcheck_numbers:Array (Option Value)} {f_Dcheck_ends:Addr} {oc_Dcheck_ends:Value} {kV_Dcheck_ends:Value} {dc_Dcheck_ends:Value} {pm_Dcheck_ends:Value} {cd_Dcheck_ends:Value} {ct_Dcheck_ends:Value} {od_Dcheck_ends:Option Addr} {an_Dcheck_ends:Option Addr} {sl_Dcheck_ends:Array (Option Value)} {f_MFewest_may_start_together:Addr} {oc_MFewest_may_start_together:Value} {kV_MFewest_may_start_together:Value} {dc_MFewest_may_start_together:Value} {pm_MFewest_may_start_together:Value} {cd_MFewest_may_start_together:Value} {ct_MFewest_may_start_together:Value} {od_MFewest_may_start_together:Option Addr} {an_MFewest_may_start_together:Option Addr} {sl_MFewest_may_start_together:Array (Option Value)} {f_MWidest_may_start_together:Addr} {oc_MWidest_may_start_together:Value} {kV_MWidest_may_start_together:Value} {dc_MWidest_may_start_together:Value} {pm_MWidest_may_start_together:Value} {cd_MWidest_may_start_together:Value} {ct_MWidest_may_start_together:Value} {od_MWidest_may_start_together:Option Addr} {an_MWidest_may_start_together:Option Addr} {sl_MWidest_may_start_together:Array (Option Value)} {f_MCounted_may_start_together:Addr} {oc_MCounted_may_start_together:Value} {kV_MCounted_may_start_together:Value} {dc_MCounted_may_start_together:Value} {pm_MCounted_may_start_together:Value} {cd_MCounted_may_start_together:Value} {ct_MCounted_may_start_together:Value} {od_MCounted_may_start_together:Option Addr} {an_MCounted_may_start_together:Option Addr} {sl_MCounted_may_start_together:Array (Option Value)} {f_MLikeliest_may_start_together:Addr} {oc_MLikeliest_may_start_together:Value} {kV_MLikeliest_may_start_together:Value} {dc_MLikeliest_may_start_together:Value} {pm_MLikeliest_may_start_together:Value} {cd_MLikeliest_may_start_together:Value} {ct_MLikeliest_may_start_together:Value} {od_MLikeliest_may_start_together:Option Addr} {an_MLikeliest_may_start_together:Option Addr} {sl_MLikeliest_may_start_together:Array (Option Value)} {f_MChances_may_start_together:Addr} {oc_MChances_may_start_together:Value} {kV_MChances_may_start_together:Value} {dc_MChances_may_start_together:Value} {pm_MChances_may_start_together:Value} {cd_MChances_may_start_together:Value} {ct_MChances_may_start_together:Value} {od_MChances_may_start_together:Option Addr} {an_MChances_may_start_together:Option Addr} {sl_MChances_may_start_together:Array (Option Value)} {f_MMusts_may_start_together:Addr} {oc_MMusts_may_start_together:Value} {kV_MMusts_may_start_together:Value} {dc_MMusts_may_start_together:Value} {pm_MMusts_may_start_together:Value} {cd_MMusts_may_start_together:Value} {ct_MMusts_may_start_together:Value} {od_MMusts_may_start_together:Option Addr} {an_MMusts_may_start_together:Option Addr} {sl_MMusts_may_start_together:Array (Option Value)} {f_MRests_may_start_together:Addr} {oc_MRests_may_start_together:Value} {kV_MRests_may_start_together:Value} {dc_MRests_may_start_together:Value} {pm_MRests_may_start_together:Value} {cd_MRests_may_start_together:Value} {ct_MRests_may_start_together:Value} {od_MRests_may_start_together:Option Addr} {an_MRests_may_start_together:Option Addr} {sl_MRests_may_start_together:Array (Option Value)} {f_Dcheck_starts:Addr} {oc_Dcheck_starts:Value} {kV_Dcheck_starts:Value} {dc_Dcheck_starts:Value} {pm_Dcheck_starts:Value} {cd_Dcheck_starts:Value} {ct_Dcheck_starts:Value} {od_Dcheck_starts:Option Addr} {an_Dcheck_starts:Option Addr} {sl_Dcheck_starts:Array (Option Value)} {f_Dcheck_worths:Addr} {oc_Dcheck_worths:Value} {kV_Dcheck_worths:Value} {dc_Dcheck_worths:Value} {pm_Dcheck_worths:Value} {cd_Dcheck_worths:Value} {ct_Dcheck_worths:Value} {od_Dcheck_worths:Option Addr} {an_Dcheck_worths:Option Addr} {sl_Dcheck_worths:Array (Option Value)} {f_MNet_init:Addr} {oc_MNet_init:Value} {kV_MNet_init:Value} {dc_MNet_init:Value} {pm_MNet_init:Value} {cd_MNet_init:Value} {ct_MNet_init:Value} {od_MNet_init:Option Addr} {an_MNet_init:Option Addr} {sl_MNet_init:Array (Option Value)} {f_MNet_kind:Addr} {oc_MNet_kind:Value} {kV_MNet_kind:Value} {dc_MNet_kind:Value} {pm_MNet_kind:Value} {cd_MNet_kind:Value} {ct_MNet_kind:Value} {od_MNet_kind:Option Addr} {an_MNet_kind:Option Addr} {sl_MNet_kind:Array (Option Value)} {f_MNet_places:Addr} {oc_MNet_places:Value} {kV_MNet_places:Value} {dc_MNet_places:Value} {pm_MNet_places:Value} {cd_MNet_places:Value} {ct_MNet_places:Value} {od_MNet_places:Option Addr} {an_MNet_places:Option Addr} {sl_MNet_places:Array (Option Value)} {f_MNet_roads:Addr} {oc_MNet_roads:Value} {kV_MNet_roads:Value} {dc_MNet_roads:Value} {pm_MNet_roads:Value} {cd_MNet_roads:Value} {ct_MNet_roads:Value} {od_MNet_roads:Option Addr} {an_MNet_roads:Option Addr} {sl_MNet_roads:Array (Option Value)} {f_Dlaw_tog:Addr} {oc_Dlaw_tog:Value} {kV_Dlaw_tog:Value} {dc_Dlaw_tog:Value} {pm_Dlaw_tog:Value} {cd_Dlaw_tog:Value} {ct_Dlaw_tog:Value} {od_Dlaw_tog:Option Addr} {an_Dlaw_tog:Option Addr} {sl_Dlaw_tog:Array (Option Value)} {f_Dlaw_beh:Addr} {oc_Dlaw_beh:Value} {kV_Dlaw_beh:Value} {dc_Dlaw_beh:Value} {pm_Dlaw_beh:Value} {cd_Dlaw_beh:Value} {ct_Dlaw_beh:Value} {od_Dlaw_beh:Option Addr} {an_Dlaw_beh:Option Addr} {sl_Dlaw_beh:Array (Option Value)} {f_Dlaw_whole:Addr} {oc_Dlaw_whole:Value} {kV_Dlaw_whole:Value} {dc_Dlaw_whole:Value} {pm_Dlaw_whole:Value} {cd_Dlaw_whole:Value} {ct_Dlaw_whole:Value} {od_Dlaw_whole:Option Addr} {an_Dlaw_whole:Option Addr} {sl_Dlaw_whole:Array (Option Value)} {f_Dlaw_is:Addr} {oc_Dlaw_is:Value} {kV_Dlaw_is:Value} {dc_Dlaw_is:Value} {pm_Dlaw_is:Value} {cd_Dlaw_is:Value} {ct_Dlaw_is:Value} {od_Dlaw_is:Option Addr} {an_Dlaw_is:Option Addr} {sl_Dlaw_is:Array (Option Value)} {f_Dlaw_thinned:Addr} {oc_Dlaw_thinned:Value} {kV_Dlaw_thinned:Value} {dc_Dlaw_thinned:Value} {pm_Dlaw_thinned:Value} {cd_Dlaw_thinned:Value} {ct_Dlaw_thinned:Value} {od_Dlaw_thinned:Option Addr} {an_Dlaw_thinned:Option Addr} {sl_Dlaw_thinned:Array (Option Value)} {f_Dlaw_net:Addr} {oc_Dlaw_net:Value} {kV_Dlaw_net:Value} {dc_Dlaw_net:Value} {pm_Dlaw_net:Value} {cd_Dlaw_net:Value} {ct_Dlaw_net:Value} {od_Dlaw_net:Option Addr} {an_Dlaw_net:Option Addr} {sl_Dlaw_net:Array (Option Value)} {f_Dcheck_place:Addr} {oc_Dcheck_place:Value} {kV_Dcheck_place:Value} {dc_Dcheck_place:Value} {pm_Dcheck_place:Value} {cd_Dcheck_place:Value} {ct_Dcheck_place:Value} {od_Dcheck_place:Option Addr} {an_Dcheck_place:Option Addr} {sl_Dcheck_place:Array (Option Value)} {f_Dstraight:Addr} {oc_Dstraight:Value} {kV_Dstraight:Value} {dc_Dstraight:Value} {pm_Dstraight:Value} {cd_Dstraight:Value} {ct_Dstraight:Value} {od_Dstraight:Option Addr} {an_Dstraight:Option Addr} {sl_Dstraight:Array (Option Value)} {f_Dled_through:Addr} {oc_Dled_through:Value} {kV_Dled_through:Value} {dc_Dled_through:Value} {pm_Dled_through:Value} {cd_Dled_through:Value} {ct_Dled_through:Value} {od_Dled_through:Option Addr} {an_Dled_through:Option Addr} {sl_Dled_through:Array (Option Value)} {f_Dtable:Addr} {oc_Dtable:Value} {kV_Dtable:Value} {dc_Dtable:Value} {pm_Dtable:Value} {cd_Dtable:Value} {ct_Dtable:Value} {od_Dtable:Option Addr} {an_Dtable:Option Addr} {sl_Dtable:Array (Option Value)} {f_Dlaw_rounds:Addr} {oc_Dlaw_rounds:Value} {kV_Dlaw_rounds:Value} {dc_Dlaw_rounds:Value} {pm_Dlaw_rounds:Value} {cd_Dlaw_rounds:Value} {ct_Dlaw_rounds:Value} {od_Dlaw_rounds:Option Addr} {an_Dlaw_rounds:Option Addr} {sl_Dlaw_rounds:Array (Option Value)} {f_Dwithout:Addr} {oc_Dwithout:Value} {kV_Dwithout:Value} {dc_Dwithout:Value} {pm_Dwithout:Value} {cd_Dwithout:Value} {ct_Dwithout:Value} {od_Dwithout:Option Addr} {an_Dwithout:Option Addr} {sl_Dwithout:Array (Option Value)} {f_Dlaw_between:Addr} {oc_Dlaw_between:Value} {kV_Dlaw_between:Value} {dc_Dlaw_between:Value} {pm_Dlaw_between:Value} {cd_Dlaw_between:Value} {ct_Dlaw_between:Value} {od_Dlaw_between:Option Addr} {an_Dlaw_between:Option Addr} {sl_Dlaw_between:Array (Option Value)} {f_Dlaw_due:Addr} {oc_Dlaw_due:Value} {kV_Dlaw_due:Value} {dc_Dlaw_due:Value} {pm_Dlaw_due:Value} {cd_Dlaw_due:Value} {ct_Dlaw_due:Value} {od_Dlaw_due:Option Addr} {an_Dlaw_due:Option Addr} {sl_Dlaw_due:Array (Option Value)} {f_Dlaw_same_sums:Addr} {oc_Dlaw_same_sums:Value} {kV_Dlaw_same_sums:Value} {dc_Dlaw_same_sums:Value} {pm_Dlaw_same_sums:Value} {cd_Dlaw_same_sums:Value} {ct_Dlaw_same_sums:Value} {od_Dlaw_same_sums:Option Addr} {an_Dlaw_same_sums:Option Addr} {sl_Dlaw_same_sums:Array (Option Value)} {f_Dlaw:Addr} {oc_Dlaw:Value} {kV_Dlaw:Value} {dc_Dlaw:Value} {pm_Dlaw:Value} {cd_Dlaw:Value} {ct_Dlaw:Value} {od_Dlaw:Option Addr} {an_Dlaw:Option Addr} {sl_Dlaw:Array (Option Value)}
    (g_SumError:PySem.W.nsIn K mainGlobals "SumError"=some (some (.ref c_SumError)))
    (g_NoNet:PySem.W.nsIn K mainGlobals "NoNet"=some (some (.ref c_NoNet)))
    (g_NoWorth:PySem.W.nsIn K mainGlobals "NoWorth"=some (some (.ref c_NoWorth)))
    (g_NoPlace:PySem.W.nsIn K mainGlobals "NoPlace"=some (some (.ref c_NoPlace)))
    (g_NoSum:PySem.W.nsIn K mainGlobals "NoSum"=some (some (.ref c_NoSum)))
    (g_Kind:PySem.W.nsIn K mainGlobals "Kind"=some (some (.ref c_Kind)))
    (g_Fewest:PySem.W.nsIn K mainGlobals "Fewest"=some (some (.ref c_Fewest)))
    (g_Widest:PySem.W.nsIn K mainGlobals "Widest"=some (some (.ref c_Widest)))
    (g_Counted:PySem.W.nsIn K mainGlobals "Counted"=some (some (.ref c_Counted)))
    (g_Likeliest:PySem.W.nsIn K mainGlobals "Likeliest"=some (some (.ref c_Likeliest)))
    (g_Chances:PySem.W.nsIn K mainGlobals "Chances"=some (some (.ref c_Chances)))
    (g_Musts:PySem.W.nsIn K mainGlobals "Musts"=some (some (.ref c_Musts)))
    (g_Rests:PySem.W.nsIn K mainGlobals "Rests"=some (some (.ref c_Rests)))
    (g_Net:PySem.W.nsIn K mainGlobals "Net"=some (some (.ref c_Net)))
    (g_WIDEST:PySem.W.nsIn K mainGlobals "WIDEST"=some (some (.int 1000000000 t_WIDEST)))
    (g_MOST_RESTS:PySem.W.nsIn K mainGlobals "MOST_RESTS"=some (some (.int 12 t_MOST_RESTS)))
    (g_MOST_PLACES:PySem.W.nsIn K mainGlobals "MOST_PLACES"=some (some (.int 8 t_MOST_PLACES)))
    (g_MOST_ROADS:PySem.W.nsIn K mainGlobals "MOST_ROADS"=some (some (.int 64 t_MOST_ROADS)))
    (z_isinstance:PySem.W.nsIn K mainGlobals "isinstance"=some none)
    (z_len:PySem.W.nsIn K mainGlobals "len"=some none)
    (z_int:PySem.W.nsIn K mainGlobals "int"=some none)
    (z_bool:PySem.W.nsIn K mainGlobals "bool"=some none)
    (z_tuple:PySem.W.nsIn K mainGlobals "tuple"=some none)
    (z_list:PySem.W.nsIn K mainGlobals "list"=some none)
    (z_ValueError:PySem.W.nsIn K mainGlobals "ValueError"=some none)
    (z_range:PySem.W.nsIn K mainGlobals "range"=some none)
    (z_min:PySem.W.nsIn K mainGlobals "min"=some none)
    (z_max:PySem.W.nsIn K mainGlobals "max"=some none)
    (z_enumerate:PySem.W.nsIn K mainGlobals "enumerate"=some none)
    (xo_NoNet:PySem.W.excIn K c_NoNet bmV "ValueError.__new__"=true)
    (xa_NoNet:(PySem.W.clsIn K c_NoNet).isSome=true)
    (xb_NoNet:PySem.W.findIn K (.ref c_NoNet) "__getattribute__"=some (some (.builtin "BaseException.__getattribute__")))
    (xc_NoNet:PySem.W.findIn K (.ref c_NoNet) "__getattr__"=some none)
    (xd_NoNet:PySem.W.findIn K (.ref c_NoNet) "__class__"=some (some (.builtin "object.__class__")))
    (xe_NoNet:PySem.W.subIn K (.ref c_NoNet) (.type "BaseException")=some true)
    (xf_NoNet:PySem.W.subIn K (.ref c_NoNet) (.type "object")=some true)
    (xo_NoPlace:PySem.W.excIn K c_NoPlace bmV "ValueError.__new__"=true)
    (xa_NoPlace:(PySem.W.clsIn K c_NoPlace).isSome=true)
    (xb_NoPlace:PySem.W.findIn K (.ref c_NoPlace) "__getattribute__"=some (some (.builtin "BaseException.__getattribute__")))
    (xc_NoPlace:PySem.W.findIn K (.ref c_NoPlace) "__getattr__"=some none)
    (xd_NoPlace:PySem.W.findIn K (.ref c_NoPlace) "__class__"=some (some (.builtin "object.__class__")))
    (xe_NoPlace:PySem.W.subIn K (.ref c_NoPlace) (.type "BaseException")=some true)
    (xf_NoPlace:PySem.W.subIn K (.ref c_NoPlace) (.type "object")=some true)
    (xo_NoSum:PySem.W.excIn K c_NoSum bmV "ValueError.__new__"=true)
    (xa_NoSum:(PySem.W.clsIn K c_NoSum).isSome=true)
    (xb_NoSum:PySem.W.findIn K (.ref c_NoSum) "__getattribute__"=some (some (.builtin "BaseException.__getattribute__")))
    (xc_NoSum:PySem.W.findIn K (.ref c_NoSum) "__getattr__"=some none)
    (xd_NoSum:PySem.W.findIn K (.ref c_NoSum) "__class__"=some (some (.builtin "object.__class__")))
    (xe_NoSum:PySem.W.subIn K (.ref c_NoSum) (.type "BaseException")=some true)
    (xf_NoSum:PySem.W.subIn K (.ref c_NoSum) (.type "object")=some true)
    (xm_NoSum_NoSum:PySem.W.exmOne K (.ref c_NoSum) (.ref c_NoSum)=some true)
    (xo_NoWorth:PySem.W.excIn K c_NoWorth bmV "ValueError.__new__"=true)
    (xa_NoWorth:(PySem.W.clsIn K c_NoWorth).isSome=true)
    (xb_NoWorth:PySem.W.findIn K (.ref c_NoWorth) "__getattribute__"=some (some (.builtin "BaseException.__getattribute__")))
    (xc_NoWorth:PySem.W.findIn K (.ref c_NoWorth) "__getattr__"=some none)
    (xd_NoWorth:PySem.W.findIn K (.ref c_NoWorth) "__class__"=some (some (.builtin "object.__class__")))
    (xe_NoWorth:PySem.W.subIn K (.ref c_NoWorth) (.type "BaseException")=some true)
    (xf_NoWorth:PySem.W.subIn K (.ref c_NoWorth) (.type "object")=some true)
    (mk_Fewest:PySem.W.makesIn K c_Fewest=true)
    (in_Fewest:PySem.W.findIn K (.ref c_Fewest) "__init__"=some (some (.builtin "object.__init__")))
    (kp_Fewest:PySem.W.keepIn K (.ref c_Fewest)=true)
    (mk_Widest:PySem.W.makesIn K c_Widest=true)
    (in_Widest:PySem.W.findIn K (.ref c_Widest) "__init__"=some (some (.builtin "object.__init__")))
    (kp_Widest:PySem.W.keepIn K (.ref c_Widest)=true)
    (mk_Counted:PySem.W.makesIn K c_Counted=true)
    (in_Counted:PySem.W.findIn K (.ref c_Counted) "__init__"=some (some (.builtin "object.__init__")))
    (kp_Counted:PySem.W.keepIn K (.ref c_Counted)=true)
    (mk_Likeliest:PySem.W.makesIn K c_Likeliest=true)
    (in_Likeliest:PySem.W.findIn K (.ref c_Likeliest) "__init__"=some (some (.builtin "object.__init__")))
    (kp_Likeliest:PySem.W.keepIn K (.ref c_Likeliest)=true)
    (mk_Chances:PySem.W.makesIn K c_Chances=true)
    (in_Chances:PySem.W.findIn K (.ref c_Chances) "__init__"=some (some (.builtin "object.__init__")))
    (kp_Chances:PySem.W.keepIn K (.ref c_Chances)=true)
    (mk_Musts:PySem.W.makesIn K c_Musts=true)
    (in_Musts:PySem.W.findIn K (.ref c_Musts) "__init__"=some (some (.builtin "object.__init__")))
    (kp_Musts:PySem.W.keepIn K (.ref c_Musts)=true)
    (mk_Rests:PySem.W.makesIn K c_Rests=true)
    (kp_Rests:PySem.W.keepIn K (.ref c_Rests)=true)
    (na_Rests_m:PySem.W.findIn K (.ref c_Rests) "m"=some none)
    (mk_Net:PySem.W.makesIn K c_Net=true)
    (kp_Net:PySem.W.keepIn K (.ref c_Net)=true)
    (na_Net_own_kind:PySem.W.findIn K (.ref c_Net) "own_kind"=some none)
    (na_Net_how_many:PySem.W.findIn K (.ref c_Net) "how_many"=some none)
    (na_Net_own_roads:PySem.W.findIn K (.ref c_Net) "own_roads"=some none)
    (pg_Net:PySem.W.plainGet K c_Net Str.empty=true)
    (hd_Net:PySem.W.hasDictIn K c_Net=true)
    (po_Net:PySem.W.plainOver K c_Net=true)
    (sa_Net:PySem.W.findIn K (.ref c_Net) "__setattr__"=some (some (.builtin "object.__setattr__")))
    (pg_Fewest:PySem.W.plainGet K c_Fewest Str.empty=true)
    (hd_Fewest:PySem.W.hasDictIn K c_Fewest=true)
    (po_Fewest:PySem.W.plainOver K c_Fewest=true)
    (sa_Fewest:PySem.W.findIn K (.ref c_Fewest) "__setattr__"=some (some (.builtin "object.__setattr__")))
    (pg_Widest:PySem.W.plainGet K c_Widest Str.empty=true)
    (hd_Widest:PySem.W.hasDictIn K c_Widest=true)
    (po_Widest:PySem.W.plainOver K c_Widest=true)
    (sa_Widest:PySem.W.findIn K (.ref c_Widest) "__setattr__"=some (some (.builtin "object.__setattr__")))
    (pg_Counted:PySem.W.plainGet K c_Counted Str.empty=true)
    (hd_Counted:PySem.W.hasDictIn K c_Counted=true)
    (po_Counted:PySem.W.plainOver K c_Counted=true)
    (sa_Counted:PySem.W.findIn K (.ref c_Counted) "__setattr__"=some (some (.builtin "object.__setattr__")))
    (pg_Likeliest:PySem.W.plainGet K c_Likeliest Str.empty=true)
    (hd_Likeliest:PySem.W.hasDictIn K c_Likeliest=true)
    (po_Likeliest:PySem.W.plainOver K c_Likeliest=true)
    (sa_Likeliest:PySem.W.findIn K (.ref c_Likeliest) "__setattr__"=some (some (.builtin "object.__setattr__")))
    (pg_Chances:PySem.W.plainGet K c_Chances Str.empty=true)
    (hd_Chances:PySem.W.hasDictIn K c_Chances=true)
    (po_Chances:PySem.W.plainOver K c_Chances=true)
    (sa_Chances:PySem.W.findIn K (.ref c_Chances) "__setattr__"=some (some (.builtin "object.__setattr__")))
    (pg_Musts:PySem.W.plainGet K c_Musts Str.empty=true)
    (hd_Musts:PySem.W.hasDictIn K c_Musts=true)
    (po_Musts:PySem.W.plainOver K c_Musts=true)
    (sa_Musts:PySem.W.findIn K (.ref c_Musts) "__setattr__"=some (some (.builtin "object.__setattr__")))
    (pg_Rests:PySem.W.plainGet K c_Rests Str.empty=true)
    (hd_Rests:PySem.W.hasDictIn K c_Rests=true)
    (po_Rests:PySem.W.plainOver K c_Rests=true)
    (sa_Rests:PySem.W.findIn K (.ref c_Rests) "__setattr__"=some (some (.builtin "object.__setattr__")))
    (a_Ddivisor:PySem.W.nsIn K mainGlobals "divisor"=some (some (.ref f_Ddivisor)))
    (l_Ddivisor:K.lookup f_Ddivisor=some ⟨oc_Ddivisor,od_Ddivisor,.func (PySem.W.fnOf "divisor" "divisor" (defArgs (top 8)) (defBody (top 8)) (defScope (top 8)) .none kV_Ddivisor dc_Ddivisor pm_Ddivisor an_Ddivisor cd_Ddivisor ct_Ddivisor),sl_Ddivisor⟩)
    (c_Ddivisor_:PySem.W.codeIn K cd_Ddivisor "divisor"=true)
    (k_Ddivisor:PySem.W.keepIn K (.ref f_Ddivisor)=true)
    (a_MRests_init:PySem.W.findIn K (.ref c_Rests) "__init__"=some (some (.ref f_MRests_init)))
    (i_MRests_init:PySem.W.isFn K (.ref f_MRests_init)=true)
    (l_MRests_init:K.lookup f_MRests_init=some ⟨oc_MRests_init,od_MRests_init,.func (PySem.W.fnOf "__init__" "Rests.__init__" (defArgs (inClass (top 27) 0)) (defBody (inClass (top 27) 0)) (defScope (inClass (top 27) 0)) .none kV_MRests_init dc_MRests_init pm_MRests_init an_MRests_init cd_MRests_init ct_MRests_init),sl_MRests_init⟩)
    (c_MRests_init_:PySem.W.codeIn K cd_MRests_init "Rests.__init__"=true)
    (k_MRests_init:PySem.W.keepIn K (.ref f_MRests_init)=true)
    (a_Dlaw_cell_at:PySem.W.nsIn K mainGlobals "_law_cell_at"=some (some (.ref f_Dlaw_cell_at)))
    (l_Dlaw_cell_at:K.lookup f_Dlaw_cell_at=some ⟨oc_Dlaw_cell_at,od_Dlaw_cell_at,.func (PySem.W.fnOf "_law_cell_at" "_law_cell_at" (defArgs (top 43)) (defBody (top 43)) (defScope (top 43)) .none kV_Dlaw_cell_at dc_Dlaw_cell_at pm_Dlaw_cell_at an_Dlaw_cell_at cd_Dlaw_cell_at ct_Dlaw_cell_at),sl_Dlaw_cell_at⟩)
    (c_Dlaw_cell_at_:PySem.W.codeIn K cd_Dlaw_cell_at "_law_cell_at"=true)
    (k_Dlaw_cell_at:PySem.W.keepIn K (.ref f_Dlaw_cell_at)=true)
    (a_Dlaw_kind:PySem.W.nsIn K mainGlobals "_law_kind"=some (some (.ref f_Dlaw_kind)))
    (l_Dlaw_kind:K.lookup f_Dlaw_kind=some ⟨oc_Dlaw_kind,od_Dlaw_kind,.func (PySem.W.fnOf "_law_kind" "_law_kind" (defArgs (top 45)) (defBody (top 45)) (defScope (top 45)) .none kV_Dlaw_kind dc_Dlaw_kind pm_Dlaw_kind an_Dlaw_kind cd_Dlaw_kind ct_Dlaw_kind),sl_Dlaw_kind⟩)
    (c_Dlaw_kind_:PySem.W.codeIn K cd_Dlaw_kind "_law_kind"=true)
    (k_Dlaw_kind:PySem.W.keepIn K (.ref f_Dlaw_kind)=true)
    (a_Dlaw_share:PySem.W.nsIn K mainGlobals "_law_share"=some (some (.ref f_Dlaw_share)))
    (l_Dlaw_share:K.lookup f_Dlaw_share=some ⟨oc_Dlaw_share,od_Dlaw_share,.func (PySem.W.fnOf "_law_share" "_law_share" (defArgs (top 46)) (defBody (top 46)) (defScope (top 46)) .none kV_Dlaw_share dc_Dlaw_share pm_Dlaw_share an_Dlaw_share cd_Dlaw_share ct_Dlaw_share),sl_Dlaw_share⟩)
    (c_Dlaw_share_:PySem.W.codeIn K cd_Dlaw_share "_law_share"=true)
    (k_Dlaw_share:PySem.W.keepIn K (.ref f_Dlaw_share)=true)
    (a_Dlaw_none:PySem.W.nsIn K mainGlobals "_law_none"=some (some (.ref f_Dlaw_none)))
    (l_Dlaw_none:K.lookup f_Dlaw_none=some ⟨oc_Dlaw_none,od_Dlaw_none,.func (PySem.W.fnOf "_law_none" "_law_none" (defArgs (top 47)) (defBody (top 47)) (defScope (top 47)) .none kV_Dlaw_none dc_Dlaw_none pm_Dlaw_none an_Dlaw_none cd_Dlaw_none ct_Dlaw_none),sl_Dlaw_none⟩)
    (c_Dlaw_none_:PySem.W.codeIn K cd_Dlaw_none "_law_none"=true)
    (k_Dlaw_none:PySem.W.keepIn K (.ref f_Dlaw_none)=true)
    (a_Dlaw_rest:PySem.W.nsIn K mainGlobals "_law_rest"=some (some (.ref f_Dlaw_rest)))
    (l_Dlaw_rest:K.lookup f_Dlaw_rest=some ⟨oc_Dlaw_rest,od_Dlaw_rest,.func (PySem.W.fnOf "_law_rest" "_law_rest" (defArgs (top 48)) (defBody (top 48)) (defScope (top 48)) .none kV_Dlaw_rest dc_Dlaw_rest pm_Dlaw_rest an_Dlaw_rest cd_Dlaw_rest ct_Dlaw_rest),sl_Dlaw_rest⟩)
    (c_Dlaw_rest_:PySem.W.codeIn K cd_Dlaw_rest "_law_rest"=true)
    (k_Dlaw_rest:PySem.W.keepIn K (.ref f_Dlaw_rest)=true)
    (a_Dlaw_worth:PySem.W.nsIn K mainGlobals "_law_worth"=some (some (.ref f_Dlaw_worth)))
    (l_Dlaw_worth:K.lookup f_Dlaw_worth=some ⟨oc_Dlaw_worth,od_Dlaw_worth,.func (PySem.W.fnOf "_law_worth" "_law_worth" (defArgs (top 51)) (defBody (top 51)) (defScope (top 51)) .none kV_Dlaw_worth dc_Dlaw_worth pm_Dlaw_worth an_Dlaw_worth cd_Dlaw_worth ct_Dlaw_worth),sl_Dlaw_worth⟩)
    (c_Dlaw_worth_:PySem.W.codeIn K cd_Dlaw_worth "_law_worth"=true)
    (k_Dlaw_worth:PySem.W.keepIn K (.ref f_Dlaw_worth)=true)
    (a_Dlowest:PySem.W.nsIn K mainGlobals "lowest"=some (some (.ref f_Dlowest)))
    (l_Dlowest:K.lookup f_Dlowest=some ⟨oc_Dlowest,od_Dlowest,.func (PySem.W.fnOf "lowest" "lowest" (defArgs (top 10)) (defBody (top 10)) (defScope (top 10)) .none kV_Dlowest dc_Dlowest pm_Dlowest an_Dlowest cd_Dlowest ct_Dlowest),sl_Dlowest⟩)
    (c_Dlowest_:PySem.W.codeIn K cd_Dlowest "lowest"=true)
    (k_Dlowest:PySem.W.keepIn K (.ref f_Dlowest)=true)
    (a_Dadded:PySem.W.nsIn K mainGlobals "added"=some (some (.ref f_Dadded)))
    (l_Dadded:K.lookup f_Dadded=some ⟨oc_Dadded,od_Dadded,.func (PySem.W.fnOf "added" "added" (defArgs (top 11)) (defBody (top 11)) (defScope (top 11)) .none kV_Dadded dc_Dadded pm_Dadded an_Dadded cd_Dadded ct_Dadded),sl_Dadded⟩)
    (c_Dadded_:PySem.W.codeIn K cd_Dadded "added"=true)
    (k_Dadded:PySem.W.keepIn K (.ref f_Dadded)=true)
    (a_Dmultiplied:PySem.W.nsIn K mainGlobals "multiplied"=some (some (.ref f_Dmultiplied)))
    (l_Dmultiplied:K.lookup f_Dmultiplied=some ⟨oc_Dmultiplied,od_Dmultiplied,.func (PySem.W.fnOf "multiplied" "multiplied" (defArgs (top 12)) (defBody (top 12)) (defScope (top 12)) .none kV_Dmultiplied dc_Dmultiplied pm_Dmultiplied an_Dmultiplied cd_Dmultiplied ct_Dmultiplied),sl_Dmultiplied⟩)
    (c_Dmultiplied_:PySem.W.codeIn K cd_Dmultiplied "multiplied"=true)
    (k_Dmultiplied:PySem.W.keepIn K (.ref f_Dmultiplied)=true)
    (a_Dgreater:PySem.W.nsIn K mainGlobals "greater"=some (some (.ref f_Dgreater)))
    (l_Dgreater:K.lookup f_Dgreater=some ⟨oc_Dgreater,od_Dgreater,.func (PySem.W.fnOf "greater" "greater" (defArgs (top 13)) (defBody (top 13)) (defScope (top 13)) .none kV_Dgreater dc_Dgreater pm_Dgreater an_Dgreater cd_Dgreater ct_Dgreater),sl_Dgreater⟩)
    (c_Dgreater_:PySem.W.codeIn K cd_Dgreater "greater"=true)
    (k_Dgreater:PySem.W.keepIn K (.ref f_Dgreater)=true)
    (a_Dlacking_to_one:PySem.W.nsIn K mainGlobals "lacking_to_one"=some (some (.ref f_Dlacking_to_one)))
    (l_Dlacking_to_one:K.lookup f_Dlacking_to_one=some ⟨oc_Dlacking_to_one,od_Dlacking_to_one,.func (PySem.W.fnOf "lacking_to_one" "lacking_to_one" (defArgs (top 14)) (defBody (top 14)) (defScope (top 14)) .none kV_Dlacking_to_one dc_Dlacking_to_one pm_Dlacking_to_one an_Dlacking_to_one cd_Dlacking_to_one ct_Dlacking_to_one),sl_Dlacking_to_one⟩)
    (c_Dlacking_to_one_:PySem.W.codeIn K cd_Dlacking_to_one "lacking_to_one"=true)
    (k_Dlacking_to_one:PySem.W.keepIn K (.ref f_Dlacking_to_one)=true)
    (a_Draised:PySem.W.nsIn K mainGlobals "raised"=some (some (.ref f_Draised)))
    (l_Draised:K.lookup f_Draised=some ⟨oc_Draised,od_Draised,.func (PySem.W.fnOf "raised" "raised" (defArgs (top 19)) (defBody (top 19)) (defScope (top 19)) .none kV_Draised dc_Draised pm_Draised an_Draised cd_Draised ct_Draised),sl_Draised⟩)
    (c_Draised_:PySem.W.codeIn K cd_Draised "raised"=true)
    (k_Draised:PySem.W.keepIn K (.ref f_Draised)=true)
    (a_MFewest_none:PySem.W.findIn K (.ref c_Fewest) "none"=some (some (.ref f_MFewest_none)))
    (i_MFewest_none:PySem.W.isFn K (.ref f_MFewest_none)=true)
    (l_MFewest_none:K.lookup f_MFewest_none=some ⟨oc_MFewest_none,od_MFewest_none,.func (PySem.W.fnOf "none" "Fewest.none" (defArgs (inClass (top 21) 0)) (defBody (inClass (top 21) 0)) (defScope (inClass (top 21) 0)) .none kV_MFewest_none dc_MFewest_none pm_MFewest_none an_MFewest_none cd_MFewest_none ct_MFewest_none),sl_MFewest_none⟩)
    (c_MFewest_none_:PySem.W.codeIn K cd_MFewest_none "Fewest.none"=true)
    (k_MFewest_none:PySem.W.keepIn K (.ref f_MFewest_none)=true)
    (a_MWidest_none:PySem.W.findIn K (.ref c_Widest) "none"=some (some (.ref f_MWidest_none)))
    (i_MWidest_none:PySem.W.isFn K (.ref f_MWidest_none)=true)
    (l_MWidest_none:K.lookup f_MWidest_none=some ⟨oc_MWidest_none,od_MWidest_none,.func (PySem.W.fnOf "none" "Widest.none" (defArgs (inClass (top 22) 0)) (defBody (inClass (top 22) 0)) (defScope (inClass (top 22) 0)) .none kV_MWidest_none dc_MWidest_none pm_MWidest_none an_MWidest_none cd_MWidest_none ct_MWidest_none),sl_MWidest_none⟩)
    (c_MWidest_none_:PySem.W.codeIn K cd_MWidest_none "Widest.none"=true)
    (k_MWidest_none:PySem.W.keepIn K (.ref f_MWidest_none)=true)
    (a_MCounted_none:PySem.W.findIn K (.ref c_Counted) "none"=some (some (.ref f_MCounted_none)))
    (i_MCounted_none:PySem.W.isFn K (.ref f_MCounted_none)=true)
    (l_MCounted_none:K.lookup f_MCounted_none=some ⟨oc_MCounted_none,od_MCounted_none,.func (PySem.W.fnOf "none" "Counted.none" (defArgs (inClass (top 23) 0)) (defBody (inClass (top 23) 0)) (defScope (inClass (top 23) 0)) .none kV_MCounted_none dc_MCounted_none pm_MCounted_none an_MCounted_none cd_MCounted_none ct_MCounted_none),sl_MCounted_none⟩)
    (c_MCounted_none_:PySem.W.codeIn K cd_MCounted_none "Counted.none"=true)
    (k_MCounted_none:PySem.W.keepIn K (.ref f_MCounted_none)=true)
    (a_MLikeliest_none:PySem.W.findIn K (.ref c_Likeliest) "none"=some (some (.ref f_MLikeliest_none)))
    (i_MLikeliest_none:PySem.W.isFn K (.ref f_MLikeliest_none)=true)
    (l_MLikeliest_none:K.lookup f_MLikeliest_none=some ⟨oc_MLikeliest_none,od_MLikeliest_none,.func (PySem.W.fnOf "none" "Likeliest.none" (defArgs (inClass (top 24) 0)) (defBody (inClass (top 24) 0)) (defScope (inClass (top 24) 0)) .none kV_MLikeliest_none dc_MLikeliest_none pm_MLikeliest_none an_MLikeliest_none cd_MLikeliest_none ct_MLikeliest_none),sl_MLikeliest_none⟩)
    (c_MLikeliest_none_:PySem.W.codeIn K cd_MLikeliest_none "Likeliest.none"=true)
    (k_MLikeliest_none:PySem.W.keepIn K (.ref f_MLikeliest_none)=true)
    (a_MChances_none:PySem.W.findIn K (.ref c_Chances) "none"=some (some (.ref f_MChances_none)))
    (i_MChances_none:PySem.W.isFn K (.ref f_MChances_none)=true)
    (l_MChances_none:K.lookup f_MChances_none=some ⟨oc_MChances_none,od_MChances_none,.func (PySem.W.fnOf "none" "Chances.none" (defArgs (inClass (top 25) 0)) (defBody (inClass (top 25) 0)) (defScope (inClass (top 25) 0)) .none kV_MChances_none dc_MChances_none pm_MChances_none an_MChances_none cd_MChances_none ct_MChances_none),sl_MChances_none⟩)
    (c_MChances_none_:PySem.W.codeIn K cd_MChances_none "Chances.none"=true)
    (k_MChances_none:PySem.W.keepIn K (.ref f_MChances_none)=true)
    (a_MMusts_none:PySem.W.findIn K (.ref c_Musts) "none"=some (some (.ref f_MMusts_none)))
    (i_MMusts_none:PySem.W.isFn K (.ref f_MMusts_none)=true)
    (l_MMusts_none:K.lookup f_MMusts_none=some ⟨oc_MMusts_none,od_MMusts_none,.func (PySem.W.fnOf "none" "Musts.none" (defArgs (inClass (top 26) 0)) (defBody (inClass (top 26) 0)) (defScope (inClass (top 26) 0)) .none kV_MMusts_none dc_MMusts_none pm_MMusts_none an_MMusts_none cd_MMusts_none ct_MMusts_none),sl_MMusts_none⟩)
    (c_MMusts_none_:PySem.W.codeIn K cd_MMusts_none "Musts.none"=true)
    (k_MMusts_none:PySem.W.keepIn K (.ref f_MMusts_none)=true)
    (a_MRests_none:PySem.W.findIn K (.ref c_Rests) "none"=some (some (.ref f_MRests_none)))
    (i_MRests_none:PySem.W.isFn K (.ref f_MRests_none)=true)
    (l_MRests_none:K.lookup f_MRests_none=some ⟨oc_MRests_none,od_MRests_none,.func (PySem.W.fnOf "none" "Rests.none" (defArgs (inClass (top 27) 1)) (defBody (inClass (top 27) 1)) (defScope (inClass (top 27) 1)) .none kV_MRests_none dc_MRests_none pm_MRests_none an_MRests_none cd_MRests_none ct_MRests_none),sl_MRests_none⟩)
    (c_MRests_none_:PySem.W.codeIn K cd_MRests_none "Rests.none"=true)
    (k_MRests_none:PySem.W.keepIn K (.ref f_MRests_none)=true)
    (a_MFewest_rest:PySem.W.findIn K (.ref c_Fewest) "rest"=some (some (.ref f_MFewest_rest)))
    (i_MFewest_rest:PySem.W.isFn K (.ref f_MFewest_rest)=true)
    (l_MFewest_rest:K.lookup f_MFewest_rest=some ⟨oc_MFewest_rest,od_MFewest_rest,.func (PySem.W.fnOf "rest" "Fewest.rest" (defArgs (inClass (top 21) 1)) (defBody (inClass (top 21) 1)) (defScope (inClass (top 21) 1)) .none kV_MFewest_rest dc_MFewest_rest pm_MFewest_rest an_MFewest_rest cd_MFewest_rest ct_MFewest_rest),sl_MFewest_rest⟩)
    (c_MFewest_rest_:PySem.W.codeIn K cd_MFewest_rest "Fewest.rest"=true)
    (k_MFewest_rest:PySem.W.keepIn K (.ref f_MFewest_rest)=true)
    (a_MWidest_rest:PySem.W.findIn K (.ref c_Widest) "rest"=some (some (.ref f_MWidest_rest)))
    (i_MWidest_rest:PySem.W.isFn K (.ref f_MWidest_rest)=true)
    (l_MWidest_rest:K.lookup f_MWidest_rest=some ⟨oc_MWidest_rest,od_MWidest_rest,.func (PySem.W.fnOf "rest" "Widest.rest" (defArgs (inClass (top 22) 1)) (defBody (inClass (top 22) 1)) (defScope (inClass (top 22) 1)) .none kV_MWidest_rest dc_MWidest_rest pm_MWidest_rest an_MWidest_rest cd_MWidest_rest ct_MWidest_rest),sl_MWidest_rest⟩)
    (c_MWidest_rest_:PySem.W.codeIn K cd_MWidest_rest "Widest.rest"=true)
    (k_MWidest_rest:PySem.W.keepIn K (.ref f_MWidest_rest)=true)
    (a_MCounted_rest:PySem.W.findIn K (.ref c_Counted) "rest"=some (some (.ref f_MCounted_rest)))
    (i_MCounted_rest:PySem.W.isFn K (.ref f_MCounted_rest)=true)
    (l_MCounted_rest:K.lookup f_MCounted_rest=some ⟨oc_MCounted_rest,od_MCounted_rest,.func (PySem.W.fnOf "rest" "Counted.rest" (defArgs (inClass (top 23) 1)) (defBody (inClass (top 23) 1)) (defScope (inClass (top 23) 1)) .none kV_MCounted_rest dc_MCounted_rest pm_MCounted_rest an_MCounted_rest cd_MCounted_rest ct_MCounted_rest),sl_MCounted_rest⟩)
    (c_MCounted_rest_:PySem.W.codeIn K cd_MCounted_rest "Counted.rest"=true)
    (k_MCounted_rest:PySem.W.keepIn K (.ref f_MCounted_rest)=true)
    (a_MLikeliest_rest:PySem.W.findIn K (.ref c_Likeliest) "rest"=some (some (.ref f_MLikeliest_rest)))
    (i_MLikeliest_rest:PySem.W.isFn K (.ref f_MLikeliest_rest)=true)
    (l_MLikeliest_rest:K.lookup f_MLikeliest_rest=some ⟨oc_MLikeliest_rest,od_MLikeliest_rest,.func (PySem.W.fnOf "rest" "Likeliest.rest" (defArgs (inClass (top 24) 1)) (defBody (inClass (top 24) 1)) (defScope (inClass (top 24) 1)) .none kV_MLikeliest_rest dc_MLikeliest_rest pm_MLikeliest_rest an_MLikeliest_rest cd_MLikeliest_rest ct_MLikeliest_rest),sl_MLikeliest_rest⟩)
    (c_MLikeliest_rest_:PySem.W.codeIn K cd_MLikeliest_rest "Likeliest.rest"=true)
    (k_MLikeliest_rest:PySem.W.keepIn K (.ref f_MLikeliest_rest)=true)
    (a_MChances_rest:PySem.W.findIn K (.ref c_Chances) "rest"=some (some (.ref f_MChances_rest)))
    (i_MChances_rest:PySem.W.isFn K (.ref f_MChances_rest)=true)
    (l_MChances_rest:K.lookup f_MChances_rest=some ⟨oc_MChances_rest,od_MChances_rest,.func (PySem.W.fnOf "rest" "Chances.rest" (defArgs (inClass (top 25) 1)) (defBody (inClass (top 25) 1)) (defScope (inClass (top 25) 1)) .none kV_MChances_rest dc_MChances_rest pm_MChances_rest an_MChances_rest cd_MChances_rest ct_MChances_rest),sl_MChances_rest⟩)
    (c_MChances_rest_:PySem.W.codeIn K cd_MChances_rest "Chances.rest"=true)
    (k_MChances_rest:PySem.W.keepIn K (.ref f_MChances_rest)=true)
    (a_MMusts_rest:PySem.W.findIn K (.ref c_Musts) "rest"=some (some (.ref f_MMusts_rest)))
    (i_MMusts_rest:PySem.W.isFn K (.ref f_MMusts_rest)=true)
    (l_MMusts_rest:K.lookup f_MMusts_rest=some ⟨oc_MMusts_rest,od_MMusts_rest,.func (PySem.W.fnOf "rest" "Musts.rest" (defArgs (inClass (top 26) 1)) (defBody (inClass (top 26) 1)) (defScope (inClass (top 26) 1)) .none kV_MMusts_rest dc_MMusts_rest pm_MMusts_rest an_MMusts_rest cd_MMusts_rest ct_MMusts_rest),sl_MMusts_rest⟩)
    (c_MMusts_rest_:PySem.W.codeIn K cd_MMusts_rest "Musts.rest"=true)
    (k_MMusts_rest:PySem.W.keepIn K (.ref f_MMusts_rest)=true)
    (a_MRests_rest:PySem.W.findIn K (.ref c_Rests) "rest"=some (some (.ref f_MRests_rest)))
    (i_MRests_rest:PySem.W.isFn K (.ref f_MRests_rest)=true)
    (l_MRests_rest:K.lookup f_MRests_rest=some ⟨oc_MRests_rest,od_MRests_rest,.func (PySem.W.fnOf "rest" "Rests.rest" (defArgs (inClass (top 27) 2)) (defBody (inClass (top 27) 2)) (defScope (inClass (top 27) 2)) .none kV_MRests_rest dc_MRests_rest pm_MRests_rest an_MRests_rest cd_MRests_rest ct_MRests_rest),sl_MRests_rest⟩)
    (c_MRests_rest_:PySem.W.codeIn K cd_MRests_rest "Rests.rest"=true)
    (k_MRests_rest:PySem.W.keepIn K (.ref f_MRests_rest)=true)
    (a_MFewest_together:PySem.W.findIn K (.ref c_Fewest) "together"=some (some (.ref f_MFewest_together)))
    (i_MFewest_together:PySem.W.isFn K (.ref f_MFewest_together)=true)
    (l_MFewest_together:K.lookup f_MFewest_together=some ⟨oc_MFewest_together,od_MFewest_together,.func (PySem.W.fnOf "together" "Fewest.together" (defArgs (inClass (top 21) 3)) (defBody (inClass (top 21) 3)) (defScope (inClass (top 21) 3)) .none kV_MFewest_together dc_MFewest_together pm_MFewest_together an_MFewest_together cd_MFewest_together ct_MFewest_together),sl_MFewest_together⟩)
    (c_MFewest_together_:PySem.W.codeIn K cd_MFewest_together "Fewest.together"=true)
    (k_MFewest_together:PySem.W.keepIn K (.ref f_MFewest_together)=true)
    (a_MWidest_together:PySem.W.findIn K (.ref c_Widest) "together"=some (some (.ref f_MWidest_together)))
    (i_MWidest_together:PySem.W.isFn K (.ref f_MWidest_together)=true)
    (l_MWidest_together:K.lookup f_MWidest_together=some ⟨oc_MWidest_together,od_MWidest_together,.func (PySem.W.fnOf "together" "Widest.together" (defArgs (inClass (top 22) 3)) (defBody (inClass (top 22) 3)) (defScope (inClass (top 22) 3)) .none kV_MWidest_together dc_MWidest_together pm_MWidest_together an_MWidest_together cd_MWidest_together ct_MWidest_together),sl_MWidest_together⟩)
    (c_MWidest_together_:PySem.W.codeIn K cd_MWidest_together "Widest.together"=true)
    (k_MWidest_together:PySem.W.keepIn K (.ref f_MWidest_together)=true)
    (a_MCounted_together:PySem.W.findIn K (.ref c_Counted) "together"=some (some (.ref f_MCounted_together)))
    (i_MCounted_together:PySem.W.isFn K (.ref f_MCounted_together)=true)
    (l_MCounted_together:K.lookup f_MCounted_together=some ⟨oc_MCounted_together,od_MCounted_together,.func (PySem.W.fnOf "together" "Counted.together" (defArgs (inClass (top 23) 3)) (defBody (inClass (top 23) 3)) (defScope (inClass (top 23) 3)) .none kV_MCounted_together dc_MCounted_together pm_MCounted_together an_MCounted_together cd_MCounted_together ct_MCounted_together),sl_MCounted_together⟩)
    (c_MCounted_together_:PySem.W.codeIn K cd_MCounted_together "Counted.together"=true)
    (k_MCounted_together:PySem.W.keepIn K (.ref f_MCounted_together)=true)
    (a_MLikeliest_together:PySem.W.findIn K (.ref c_Likeliest) "together"=some (some (.ref f_MLikeliest_together)))
    (i_MLikeliest_together:PySem.W.isFn K (.ref f_MLikeliest_together)=true)
    (l_MLikeliest_together:K.lookup f_MLikeliest_together=some ⟨oc_MLikeliest_together,od_MLikeliest_together,.func (PySem.W.fnOf "together" "Likeliest.together" (defArgs (inClass (top 24) 3)) (defBody (inClass (top 24) 3)) (defScope (inClass (top 24) 3)) .none kV_MLikeliest_together dc_MLikeliest_together pm_MLikeliest_together an_MLikeliest_together cd_MLikeliest_together ct_MLikeliest_together),sl_MLikeliest_together⟩)
    (c_MLikeliest_together_:PySem.W.codeIn K cd_MLikeliest_together "Likeliest.together"=true)
    (k_MLikeliest_together:PySem.W.keepIn K (.ref f_MLikeliest_together)=true)
    (a_MChances_together:PySem.W.findIn K (.ref c_Chances) "together"=some (some (.ref f_MChances_together)))
    (i_MChances_together:PySem.W.isFn K (.ref f_MChances_together)=true)
    (l_MChances_together:K.lookup f_MChances_together=some ⟨oc_MChances_together,od_MChances_together,.func (PySem.W.fnOf "together" "Chances.together" (defArgs (inClass (top 25) 3)) (defBody (inClass (top 25) 3)) (defScope (inClass (top 25) 3)) .none kV_MChances_together dc_MChances_together pm_MChances_together an_MChances_together cd_MChances_together ct_MChances_together),sl_MChances_together⟩)
    (c_MChances_together_:PySem.W.codeIn K cd_MChances_together "Chances.together"=true)
    (k_MChances_together:PySem.W.keepIn K (.ref f_MChances_together)=true)
    (a_MMusts_together:PySem.W.findIn K (.ref c_Musts) "together"=some (some (.ref f_MMusts_together)))
    (i_MMusts_together:PySem.W.isFn K (.ref f_MMusts_together)=true)
    (l_MMusts_together:K.lookup f_MMusts_together=some ⟨oc_MMusts_together,od_MMusts_together,.func (PySem.W.fnOf "together" "Musts.together" (defArgs (inClass (top 26) 3)) (defBody (inClass (top 26) 3)) (defScope (inClass (top 26) 3)) .none kV_MMusts_together dc_MMusts_together pm_MMusts_together an_MMusts_together cd_MMusts_together ct_MMusts_together),sl_MMusts_together⟩)
    (c_MMusts_together_:PySem.W.codeIn K cd_MMusts_together "Musts.together"=true)
    (k_MMusts_together:PySem.W.keepIn K (.ref f_MMusts_together)=true)
    (a_MRests_together:PySem.W.findIn K (.ref c_Rests) "together"=some (some (.ref f_MRests_together)))
    (i_MRests_together:PySem.W.isFn K (.ref f_MRests_together)=true)
    (l_MRests_together:K.lookup f_MRests_together=some ⟨oc_MRests_together,od_MRests_together,.func (PySem.W.fnOf "together" "Rests.together" (defArgs (inClass (top 27) 4)) (defBody (inClass (top 27) 4)) (defScope (inClass (top 27) 4)) .none kV_MRests_together dc_MRests_together pm_MRests_together an_MRests_together cd_MRests_together ct_MRests_together),sl_MRests_together⟩)
    (c_MRests_together_:PySem.W.codeIn K cd_MRests_together "Rests.together"=true)
    (k_MRests_together:PySem.W.keepIn K (.ref f_MRests_together)=true)
    (a_MFewest_behind:PySem.W.findIn K (.ref c_Fewest) "behind"=some (some (.ref f_MFewest_behind)))
    (i_MFewest_behind:PySem.W.isFn K (.ref f_MFewest_behind)=true)
    (l_MFewest_behind:K.lookup f_MFewest_behind=some ⟨oc_MFewest_behind,od_MFewest_behind,.func (PySem.W.fnOf "behind" "Fewest.behind" (defArgs (inClass (top 21) 4)) (defBody (inClass (top 21) 4)) (defScope (inClass (top 21) 4)) .none kV_MFewest_behind dc_MFewest_behind pm_MFewest_behind an_MFewest_behind cd_MFewest_behind ct_MFewest_behind),sl_MFewest_behind⟩)
    (c_MFewest_behind_:PySem.W.codeIn K cd_MFewest_behind "Fewest.behind"=true)
    (k_MFewest_behind:PySem.W.keepIn K (.ref f_MFewest_behind)=true)
    (a_MWidest_behind:PySem.W.findIn K (.ref c_Widest) "behind"=some (some (.ref f_MWidest_behind)))
    (i_MWidest_behind:PySem.W.isFn K (.ref f_MWidest_behind)=true)
    (l_MWidest_behind:K.lookup f_MWidest_behind=some ⟨oc_MWidest_behind,od_MWidest_behind,.func (PySem.W.fnOf "behind" "Widest.behind" (defArgs (inClass (top 22) 4)) (defBody (inClass (top 22) 4)) (defScope (inClass (top 22) 4)) .none kV_MWidest_behind dc_MWidest_behind pm_MWidest_behind an_MWidest_behind cd_MWidest_behind ct_MWidest_behind),sl_MWidest_behind⟩)
    (c_MWidest_behind_:PySem.W.codeIn K cd_MWidest_behind "Widest.behind"=true)
    (k_MWidest_behind:PySem.W.keepIn K (.ref f_MWidest_behind)=true)
    (a_MCounted_behind:PySem.W.findIn K (.ref c_Counted) "behind"=some (some (.ref f_MCounted_behind)))
    (i_MCounted_behind:PySem.W.isFn K (.ref f_MCounted_behind)=true)
    (l_MCounted_behind:K.lookup f_MCounted_behind=some ⟨oc_MCounted_behind,od_MCounted_behind,.func (PySem.W.fnOf "behind" "Counted.behind" (defArgs (inClass (top 23) 4)) (defBody (inClass (top 23) 4)) (defScope (inClass (top 23) 4)) .none kV_MCounted_behind dc_MCounted_behind pm_MCounted_behind an_MCounted_behind cd_MCounted_behind ct_MCounted_behind),sl_MCounted_behind⟩)
    (c_MCounted_behind_:PySem.W.codeIn K cd_MCounted_behind "Counted.behind"=true)
    (k_MCounted_behind:PySem.W.keepIn K (.ref f_MCounted_behind)=true)
    (a_MLikeliest_behind:PySem.W.findIn K (.ref c_Likeliest) "behind"=some (some (.ref f_MLikeliest_behind)))
    (i_MLikeliest_behind:PySem.W.isFn K (.ref f_MLikeliest_behind)=true)
    (l_MLikeliest_behind:K.lookup f_MLikeliest_behind=some ⟨oc_MLikeliest_behind,od_MLikeliest_behind,.func (PySem.W.fnOf "behind" "Likeliest.behind" (defArgs (inClass (top 24) 4)) (defBody (inClass (top 24) 4)) (defScope (inClass (top 24) 4)) .none kV_MLikeliest_behind dc_MLikeliest_behind pm_MLikeliest_behind an_MLikeliest_behind cd_MLikeliest_behind ct_MLikeliest_behind),sl_MLikeliest_behind⟩)
    (c_MLikeliest_behind_:PySem.W.codeIn K cd_MLikeliest_behind "Likeliest.behind"=true)
    (k_MLikeliest_behind:PySem.W.keepIn K (.ref f_MLikeliest_behind)=true)
    (a_MChances_behind:PySem.W.findIn K (.ref c_Chances) "behind"=some (some (.ref f_MChances_behind)))
    (i_MChances_behind:PySem.W.isFn K (.ref f_MChances_behind)=true)
    (l_MChances_behind:K.lookup f_MChances_behind=some ⟨oc_MChances_behind,od_MChances_behind,.func (PySem.W.fnOf "behind" "Chances.behind" (defArgs (inClass (top 25) 4)) (defBody (inClass (top 25) 4)) (defScope (inClass (top 25) 4)) .none kV_MChances_behind dc_MChances_behind pm_MChances_behind an_MChances_behind cd_MChances_behind ct_MChances_behind),sl_MChances_behind⟩)
    (c_MChances_behind_:PySem.W.codeIn K cd_MChances_behind "Chances.behind"=true)
    (k_MChances_behind:PySem.W.keepIn K (.ref f_MChances_behind)=true)
    (a_MMusts_behind:PySem.W.findIn K (.ref c_Musts) "behind"=some (some (.ref f_MMusts_behind)))
    (i_MMusts_behind:PySem.W.isFn K (.ref f_MMusts_behind)=true)
    (l_MMusts_behind:K.lookup f_MMusts_behind=some ⟨oc_MMusts_behind,od_MMusts_behind,.func (PySem.W.fnOf "behind" "Musts.behind" (defArgs (inClass (top 26) 4)) (defBody (inClass (top 26) 4)) (defScope (inClass (top 26) 4)) .none kV_MMusts_behind dc_MMusts_behind pm_MMusts_behind an_MMusts_behind cd_MMusts_behind ct_MMusts_behind),sl_MMusts_behind⟩)
    (c_MMusts_behind_:PySem.W.codeIn K cd_MMusts_behind "Musts.behind"=true)
    (k_MMusts_behind:PySem.W.keepIn K (.ref f_MMusts_behind)=true)
    (a_MRests_behind:PySem.W.findIn K (.ref c_Rests) "behind"=some (some (.ref f_MRests_behind)))
    (i_MRests_behind:PySem.W.isFn K (.ref f_MRests_behind)=true)
    (l_MRests_behind:K.lookup f_MRests_behind=some ⟨oc_MRests_behind,od_MRests_behind,.func (PySem.W.fnOf "behind" "Rests.behind" (defArgs (inClass (top 27) 5)) (defBody (inClass (top 27) 5)) (defScope (inClass (top 27) 5)) .none kV_MRests_behind dc_MRests_behind pm_MRests_behind an_MRests_behind cd_MRests_behind ct_MRests_behind),sl_MRests_behind⟩)
    (c_MRests_behind_:PySem.W.codeIn K cd_MRests_behind "Rests.behind"=true)
    (k_MRests_behind:PySem.W.keepIn K (.ref f_MRests_behind)=true)
    (a_MFewest_rounds:PySem.W.findIn K (.ref c_Fewest) "rounds"=some (some (.ref f_MFewest_rounds)))
    (i_MFewest_rounds:PySem.W.isFn K (.ref f_MFewest_rounds)=true)
    (l_MFewest_rounds:K.lookup f_MFewest_rounds=some ⟨oc_MFewest_rounds,od_MFewest_rounds,.func (PySem.W.fnOf "rounds" "Kind.rounds" (defArgs (inClass (top 20) 5)) (defBody (inClass (top 20) 5)) (defScope (inClass (top 20) 5)) .none kV_MFewest_rounds dc_MFewest_rounds pm_MFewest_rounds an_MFewest_rounds cd_MFewest_rounds ct_MFewest_rounds),sl_MFewest_rounds⟩)
    (c_MFewest_rounds_:PySem.W.codeIn K cd_MFewest_rounds "Kind.rounds"=true)
    (k_MFewest_rounds:PySem.W.keepIn K (.ref f_MFewest_rounds)=true)
    (a_MWidest_rounds:PySem.W.findIn K (.ref c_Widest) "rounds"=some (some (.ref f_MWidest_rounds)))
    (i_MWidest_rounds:PySem.W.isFn K (.ref f_MWidest_rounds)=true)
    (l_MWidest_rounds:K.lookup f_MWidest_rounds=some ⟨oc_MWidest_rounds,od_MWidest_rounds,.func (PySem.W.fnOf "rounds" "Kind.rounds" (defArgs (inClass (top 20) 5)) (defBody (inClass (top 20) 5)) (defScope (inClass (top 20) 5)) .none kV_MWidest_rounds dc_MWidest_rounds pm_MWidest_rounds an_MWidest_rounds cd_MWidest_rounds ct_MWidest_rounds),sl_MWidest_rounds⟩)
    (c_MWidest_rounds_:PySem.W.codeIn K cd_MWidest_rounds "Kind.rounds"=true)
    (k_MWidest_rounds:PySem.W.keepIn K (.ref f_MWidest_rounds)=true)
    (a_MCounted_rounds:PySem.W.findIn K (.ref c_Counted) "rounds"=some (some (.ref f_MCounted_rounds)))
    (i_MCounted_rounds:PySem.W.isFn K (.ref f_MCounted_rounds)=true)
    (l_MCounted_rounds:K.lookup f_MCounted_rounds=some ⟨oc_MCounted_rounds,od_MCounted_rounds,.func (PySem.W.fnOf "rounds" "Counted.rounds" (defArgs (inClass (top 23) 5)) (defBody (inClass (top 23) 5)) (defScope (inClass (top 23) 5)) .none kV_MCounted_rounds dc_MCounted_rounds pm_MCounted_rounds an_MCounted_rounds cd_MCounted_rounds ct_MCounted_rounds),sl_MCounted_rounds⟩)
    (c_MCounted_rounds_:PySem.W.codeIn K cd_MCounted_rounds "Counted.rounds"=true)
    (k_MCounted_rounds:PySem.W.keepIn K (.ref f_MCounted_rounds)=true)
    (a_MLikeliest_rounds:PySem.W.findIn K (.ref c_Likeliest) "rounds"=some (some (.ref f_MLikeliest_rounds)))
    (i_MLikeliest_rounds:PySem.W.isFn K (.ref f_MLikeliest_rounds)=true)
    (l_MLikeliest_rounds:K.lookup f_MLikeliest_rounds=some ⟨oc_MLikeliest_rounds,od_MLikeliest_rounds,.func (PySem.W.fnOf "rounds" "Kind.rounds" (defArgs (inClass (top 20) 5)) (defBody (inClass (top 20) 5)) (defScope (inClass (top 20) 5)) .none kV_MLikeliest_rounds dc_MLikeliest_rounds pm_MLikeliest_rounds an_MLikeliest_rounds cd_MLikeliest_rounds ct_MLikeliest_rounds),sl_MLikeliest_rounds⟩)
    (c_MLikeliest_rounds_:PySem.W.codeIn K cd_MLikeliest_rounds "Kind.rounds"=true)
    (k_MLikeliest_rounds:PySem.W.keepIn K (.ref f_MLikeliest_rounds)=true)
    (a_MChances_rounds:PySem.W.findIn K (.ref c_Chances) "rounds"=some (some (.ref f_MChances_rounds)))
    (i_MChances_rounds:PySem.W.isFn K (.ref f_MChances_rounds)=true)
    (l_MChances_rounds:K.lookup f_MChances_rounds=some ⟨oc_MChances_rounds,od_MChances_rounds,.func (PySem.W.fnOf "rounds" "Chances.rounds" (defArgs (inClass (top 25) 5)) (defBody (inClass (top 25) 5)) (defScope (inClass (top 25) 5)) .none kV_MChances_rounds dc_MChances_rounds pm_MChances_rounds an_MChances_rounds cd_MChances_rounds ct_MChances_rounds),sl_MChances_rounds⟩)
    (c_MChances_rounds_:PySem.W.codeIn K cd_MChances_rounds "Chances.rounds"=true)
    (k_MChances_rounds:PySem.W.keepIn K (.ref f_MChances_rounds)=true)
    (a_MMusts_rounds:PySem.W.findIn K (.ref c_Musts) "rounds"=some (some (.ref f_MMusts_rounds)))
    (i_MMusts_rounds:PySem.W.isFn K (.ref f_MMusts_rounds)=true)
    (l_MMusts_rounds:K.lookup f_MMusts_rounds=some ⟨oc_MMusts_rounds,od_MMusts_rounds,.func (PySem.W.fnOf "rounds" "Kind.rounds" (defArgs (inClass (top 20) 5)) (defBody (inClass (top 20) 5)) (defScope (inClass (top 20) 5)) .none kV_MMusts_rounds dc_MMusts_rounds pm_MMusts_rounds an_MMusts_rounds cd_MMusts_rounds ct_MMusts_rounds),sl_MMusts_rounds⟩)
    (c_MMusts_rounds_:PySem.W.codeIn K cd_MMusts_rounds "Kind.rounds"=true)
    (k_MMusts_rounds:PySem.W.keepIn K (.ref f_MMusts_rounds)=true)
    (a_MRests_rounds:PySem.W.findIn K (.ref c_Rests) "rounds"=some (some (.ref f_MRests_rounds)))
    (i_MRests_rounds:PySem.W.isFn K (.ref f_MRests_rounds)=true)
    (l_MRests_rounds:K.lookup f_MRests_rounds=some ⟨oc_MRests_rounds,od_MRests_rounds,.func (PySem.W.fnOf "rounds" "Rests.rounds" (defArgs (inClass (top 27) 6)) (defBody (inClass (top 27) 6)) (defScope (inClass (top 27) 6)) .none kV_MRests_rounds dc_MRests_rounds pm_MRests_rounds an_MRests_rounds cd_MRests_rounds ct_MRests_rounds),sl_MRests_rounds⟩)
    (c_MRests_rounds_:PySem.W.codeIn K cd_MRests_rounds "Rests.rounds"=true)
    (k_MRests_rounds:PySem.W.keepIn K (.ref f_MRests_rounds)=true)
    (a_Dis_from:PySem.W.nsIn K mainGlobals "is_from"=some (some (.ref f_Dis_from)))
    (l_Dis_from:K.lookup f_Dis_from=some ⟨oc_Dis_from,od_Dis_from,.func (PySem.W.fnOf "is_from" "is_from" (defArgs (top 18)) (defBody (top 18)) (defScope (top 18)) .none kV_Dis_from dc_Dis_from pm_Dis_from an_Dis_from cd_Dis_from ct_Dis_from),sl_Dis_from⟩)
    (c_Dis_from_:PySem.W.codeIn K cd_Dis_from "is_from"=true)
    (k_Dis_from:PySem.W.keepIn K (.ref f_Dis_from)=true)
    (a_Dis_share:PySem.W.nsIn K mainGlobals "is_share"=some (some (.ref f_Dis_share)))
    (l_Dis_share:K.lookup f_Dis_share=some ⟨oc_Dis_share,od_Dis_share,.func (PySem.W.fnOf "is_share" "is_share" (defArgs (top 9)) (defBody (top 9)) (defScope (top 9)) .none kV_Dis_share dc_Dis_share pm_Dis_share an_Dis_share cd_Dis_share ct_Dis_share),sl_Dis_share⟩)
    (c_Dis_share_:PySem.W.codeIn K cd_Dis_share "is_share"=true)
    (k_Dis_share:PySem.W.keepIn K (.ref f_Dis_share)=true)
    (a_MFewest_is_worth:PySem.W.findIn K (.ref c_Fewest) "is_worth"=some (some (.ref f_MFewest_is_worth)))
    (i_MFewest_is_worth:PySem.W.isFn K (.ref f_MFewest_is_worth)=true)
    (l_MFewest_is_worth:K.lookup f_MFewest_is_worth=some ⟨oc_MFewest_is_worth,od_MFewest_is_worth,.func (PySem.W.fnOf "is_worth" "Fewest.is_worth" (defArgs (inClass (top 21) 2)) (defBody (inClass (top 21) 2)) (defScope (inClass (top 21) 2)) .none kV_MFewest_is_worth dc_MFewest_is_worth pm_MFewest_is_worth an_MFewest_is_worth cd_MFewest_is_worth ct_MFewest_is_worth),sl_MFewest_is_worth⟩)
    (c_MFewest_is_worth_:PySem.W.codeIn K cd_MFewest_is_worth "Fewest.is_worth"=true)
    (k_MFewest_is_worth:PySem.W.keepIn K (.ref f_MFewest_is_worth)=true)
    (a_MWidest_is_worth:PySem.W.findIn K (.ref c_Widest) "is_worth"=some (some (.ref f_MWidest_is_worth)))
    (i_MWidest_is_worth:PySem.W.isFn K (.ref f_MWidest_is_worth)=true)
    (l_MWidest_is_worth:K.lookup f_MWidest_is_worth=some ⟨oc_MWidest_is_worth,od_MWidest_is_worth,.func (PySem.W.fnOf "is_worth" "Widest.is_worth" (defArgs (inClass (top 22) 2)) (defBody (inClass (top 22) 2)) (defScope (inClass (top 22) 2)) .none kV_MWidest_is_worth dc_MWidest_is_worth pm_MWidest_is_worth an_MWidest_is_worth cd_MWidest_is_worth ct_MWidest_is_worth),sl_MWidest_is_worth⟩)
    (c_MWidest_is_worth_:PySem.W.codeIn K cd_MWidest_is_worth "Widest.is_worth"=true)
    (k_MWidest_is_worth:PySem.W.keepIn K (.ref f_MWidest_is_worth)=true)
    (a_MCounted_is_worth:PySem.W.findIn K (.ref c_Counted) "is_worth"=some (some (.ref f_MCounted_is_worth)))
    (i_MCounted_is_worth:PySem.W.isFn K (.ref f_MCounted_is_worth)=true)
    (l_MCounted_is_worth:K.lookup f_MCounted_is_worth=some ⟨oc_MCounted_is_worth,od_MCounted_is_worth,.func (PySem.W.fnOf "is_worth" "Counted.is_worth" (defArgs (inClass (top 23) 2)) (defBody (inClass (top 23) 2)) (defScope (inClass (top 23) 2)) .none kV_MCounted_is_worth dc_MCounted_is_worth pm_MCounted_is_worth an_MCounted_is_worth cd_MCounted_is_worth ct_MCounted_is_worth),sl_MCounted_is_worth⟩)
    (c_MCounted_is_worth_:PySem.W.codeIn K cd_MCounted_is_worth "Counted.is_worth"=true)
    (k_MCounted_is_worth:PySem.W.keepIn K (.ref f_MCounted_is_worth)=true)
    (a_MLikeliest_is_worth:PySem.W.findIn K (.ref c_Likeliest) "is_worth"=some (some (.ref f_MLikeliest_is_worth)))
    (i_MLikeliest_is_worth:PySem.W.isFn K (.ref f_MLikeliest_is_worth)=true)
    (l_MLikeliest_is_worth:K.lookup f_MLikeliest_is_worth=some ⟨oc_MLikeliest_is_worth,od_MLikeliest_is_worth,.func (PySem.W.fnOf "is_worth" "Likeliest.is_worth" (defArgs (inClass (top 24) 2)) (defBody (inClass (top 24) 2)) (defScope (inClass (top 24) 2)) .none kV_MLikeliest_is_worth dc_MLikeliest_is_worth pm_MLikeliest_is_worth an_MLikeliest_is_worth cd_MLikeliest_is_worth ct_MLikeliest_is_worth),sl_MLikeliest_is_worth⟩)
    (c_MLikeliest_is_worth_:PySem.W.codeIn K cd_MLikeliest_is_worth "Likeliest.is_worth"=true)
    (k_MLikeliest_is_worth:PySem.W.keepIn K (.ref f_MLikeliest_is_worth)=true)
    (a_MChances_is_worth:PySem.W.findIn K (.ref c_Chances) "is_worth"=some (some (.ref f_MChances_is_worth)))
    (i_MChances_is_worth:PySem.W.isFn K (.ref f_MChances_is_worth)=true)
    (l_MChances_is_worth:K.lookup f_MChances_is_worth=some ⟨oc_MChances_is_worth,od_MChances_is_worth,.func (PySem.W.fnOf "is_worth" "Chances.is_worth" (defArgs (inClass (top 25) 2)) (defBody (inClass (top 25) 2)) (defScope (inClass (top 25) 2)) .none kV_MChances_is_worth dc_MChances_is_worth pm_MChances_is_worth an_MChances_is_worth cd_MChances_is_worth ct_MChances_is_worth),sl_MChances_is_worth⟩)
    (c_MChances_is_worth_:PySem.W.codeIn K cd_MChances_is_worth "Chances.is_worth"=true)
    (k_MChances_is_worth:PySem.W.keepIn K (.ref f_MChances_is_worth)=true)
    (a_MMusts_is_worth:PySem.W.findIn K (.ref c_Musts) "is_worth"=some (some (.ref f_MMusts_is_worth)))
    (i_MMusts_is_worth:PySem.W.isFn K (.ref f_MMusts_is_worth)=true)
    (l_MMusts_is_worth:K.lookup f_MMusts_is_worth=some ⟨oc_MMusts_is_worth,od_MMusts_is_worth,.func (PySem.W.fnOf "is_worth" "Musts.is_worth" (defArgs (inClass (top 26) 2)) (defBody (inClass (top 26) 2)) (defScope (inClass (top 26) 2)) .none kV_MMusts_is_worth dc_MMusts_is_worth pm_MMusts_is_worth an_MMusts_is_worth cd_MMusts_is_worth ct_MMusts_is_worth),sl_MMusts_is_worth⟩)
    (c_MMusts_is_worth_:PySem.W.codeIn K cd_MMusts_is_worth "Musts.is_worth"=true)
    (k_MMusts_is_worth:PySem.W.keepIn K (.ref f_MMusts_is_worth)=true)
    (a_MRests_is_worth:PySem.W.findIn K (.ref c_Rests) "is_worth"=some (some (.ref f_MRests_is_worth)))
    (i_MRests_is_worth:PySem.W.isFn K (.ref f_MRests_is_worth)=true)
    (l_MRests_is_worth:K.lookup f_MRests_is_worth=some ⟨oc_MRests_is_worth,od_MRests_is_worth,.func (PySem.W.fnOf "is_worth" "Rests.is_worth" (defArgs (inClass (top 27) 3)) (defBody (inClass (top 27) 3)) (defScope (inClass (top 27) 3)) .none kV_MRests_is_worth dc_MRests_is_worth pm_MRests_is_worth an_MRests_is_worth cd_MRests_is_worth ct_MRests_is_worth),sl_MRests_is_worth⟩)
    (c_MRests_is_worth_:PySem.W.codeIn K cd_MRests_is_worth "Rests.is_worth"=true)
    (k_MRests_is_worth:PySem.W.keepIn K (.ref f_MRests_is_worth)=true)
    (a_Dcheck_numbers:PySem.W.nsIn K mainGlobals "check_numbers"=some (some (.ref f_Dcheck_numbers)))
    (l_Dcheck_numbers:K.lookup f_Dcheck_numbers=some ⟨oc_Dcheck_numbers,od_Dcheck_numbers,.func (PySem.W.fnOf "check_numbers" "check_numbers" (defArgs (top 31)) (defBody (top 31)) (defScope (top 31)) .none kV_Dcheck_numbers dc_Dcheck_numbers pm_Dcheck_numbers an_Dcheck_numbers cd_Dcheck_numbers ct_Dcheck_numbers),sl_Dcheck_numbers⟩)
    (c_Dcheck_numbers_:PySem.W.codeIn K cd_Dcheck_numbers "check_numbers"=true)
    (k_Dcheck_numbers:PySem.W.keepIn K (.ref f_Dcheck_numbers)=true)
    (a_Dcheck_ends:PySem.W.nsIn K mainGlobals "check_ends"=some (some (.ref f_Dcheck_ends)))
    (l_Dcheck_ends:K.lookup f_Dcheck_ends=some ⟨oc_Dcheck_ends,od_Dcheck_ends,.func (PySem.W.fnOf "check_ends" "check_ends" (defArgs (top 32)) (defBody (top 32)) (defScope (top 32)) .none kV_Dcheck_ends dc_Dcheck_ends pm_Dcheck_ends an_Dcheck_ends cd_Dcheck_ends ct_Dcheck_ends),sl_Dcheck_ends⟩)
    (c_Dcheck_ends_:PySem.W.codeIn K cd_Dcheck_ends "check_ends"=true)
    (k_Dcheck_ends:PySem.W.keepIn K (.ref f_Dcheck_ends)=true)
    (a_MFewest_may_start_together:PySem.W.findIn K (.ref c_Fewest) "may_start_together"=some (some (.ref f_MFewest_may_start_together)))
    (i_MFewest_may_start_together:PySem.W.isFn K (.ref f_MFewest_may_start_together)=true)
    (l_MFewest_may_start_together:K.lookup f_MFewest_may_start_together=some ⟨oc_MFewest_may_start_together,od_MFewest_may_start_together,.func (PySem.W.fnOf "may_start_together" "Kind.may_start_together" (defArgs (inClass (top 20) 7)) (defBody (inClass (top 20) 7)) (defScope (inClass (top 20) 7)) .none kV_MFewest_may_start_together dc_MFewest_may_start_together pm_MFewest_may_start_together an_MFewest_may_start_together cd_MFewest_may_start_together ct_MFewest_may_start_together),sl_MFewest_may_start_together⟩)
    (c_MFewest_may_start_together_:PySem.W.codeIn K cd_MFewest_may_start_together "Kind.may_start_together"=true)
    (k_MFewest_may_start_together:PySem.W.keepIn K (.ref f_MFewest_may_start_together)=true)
    (a_MWidest_may_start_together:PySem.W.findIn K (.ref c_Widest) "may_start_together"=some (some (.ref f_MWidest_may_start_together)))
    (i_MWidest_may_start_together:PySem.W.isFn K (.ref f_MWidest_may_start_together)=true)
    (l_MWidest_may_start_together:K.lookup f_MWidest_may_start_together=some ⟨oc_MWidest_may_start_together,od_MWidest_may_start_together,.func (PySem.W.fnOf "may_start_together" "Kind.may_start_together" (defArgs (inClass (top 20) 7)) (defBody (inClass (top 20) 7)) (defScope (inClass (top 20) 7)) .none kV_MWidest_may_start_together dc_MWidest_may_start_together pm_MWidest_may_start_together an_MWidest_may_start_together cd_MWidest_may_start_together ct_MWidest_may_start_together),sl_MWidest_may_start_together⟩)
    (c_MWidest_may_start_together_:PySem.W.codeIn K cd_MWidest_may_start_together "Kind.may_start_together"=true)
    (k_MWidest_may_start_together:PySem.W.keepIn K (.ref f_MWidest_may_start_together)=true)
    (a_MCounted_may_start_together:PySem.W.findIn K (.ref c_Counted) "may_start_together"=some (some (.ref f_MCounted_may_start_together)))
    (i_MCounted_may_start_together:PySem.W.isFn K (.ref f_MCounted_may_start_together)=true)
    (l_MCounted_may_start_together:K.lookup f_MCounted_may_start_together=some ⟨oc_MCounted_may_start_together,od_MCounted_may_start_together,.func (PySem.W.fnOf "may_start_together" "Kind.may_start_together" (defArgs (inClass (top 20) 7)) (defBody (inClass (top 20) 7)) (defScope (inClass (top 20) 7)) .none kV_MCounted_may_start_together dc_MCounted_may_start_together pm_MCounted_may_start_together an_MCounted_may_start_together cd_MCounted_may_start_together ct_MCounted_may_start_together),sl_MCounted_may_start_together⟩)
    (c_MCounted_may_start_together_:PySem.W.codeIn K cd_MCounted_may_start_together "Kind.may_start_together"=true)
    (k_MCounted_may_start_together:PySem.W.keepIn K (.ref f_MCounted_may_start_together)=true)
    (a_MLikeliest_may_start_together:PySem.W.findIn K (.ref c_Likeliest) "may_start_together"=some (some (.ref f_MLikeliest_may_start_together)))
    (i_MLikeliest_may_start_together:PySem.W.isFn K (.ref f_MLikeliest_may_start_together)=true)
    (l_MLikeliest_may_start_together:K.lookup f_MLikeliest_may_start_together=some ⟨oc_MLikeliest_may_start_together,od_MLikeliest_may_start_together,.func (PySem.W.fnOf "may_start_together" "Kind.may_start_together" (defArgs (inClass (top 20) 7)) (defBody (inClass (top 20) 7)) (defScope (inClass (top 20) 7)) .none kV_MLikeliest_may_start_together dc_MLikeliest_may_start_together pm_MLikeliest_may_start_together an_MLikeliest_may_start_together cd_MLikeliest_may_start_together ct_MLikeliest_may_start_together),sl_MLikeliest_may_start_together⟩)
    (c_MLikeliest_may_start_together_:PySem.W.codeIn K cd_MLikeliest_may_start_together "Kind.may_start_together"=true)
    (k_MLikeliest_may_start_together:PySem.W.keepIn K (.ref f_MLikeliest_may_start_together)=true)
    (a_MChances_may_start_together:PySem.W.findIn K (.ref c_Chances) "may_start_together"=some (some (.ref f_MChances_may_start_together)))
    (i_MChances_may_start_together:PySem.W.isFn K (.ref f_MChances_may_start_together)=true)
    (l_MChances_may_start_together:K.lookup f_MChances_may_start_together=some ⟨oc_MChances_may_start_together,od_MChances_may_start_together,.func (PySem.W.fnOf "may_start_together" "Chances.may_start_together" (defArgs (inClass (top 25) 6)) (defBody (inClass (top 25) 6)) (defScope (inClass (top 25) 6)) .none kV_MChances_may_start_together dc_MChances_may_start_together pm_MChances_may_start_together an_MChances_may_start_together cd_MChances_may_start_together ct_MChances_may_start_together),sl_MChances_may_start_together⟩)
    (c_MChances_may_start_together_:PySem.W.codeIn K cd_MChances_may_start_together "Chances.may_start_together"=true)
    (k_MChances_may_start_together:PySem.W.keepIn K (.ref f_MChances_may_start_together)=true)
    (a_MMusts_may_start_together:PySem.W.findIn K (.ref c_Musts) "may_start_together"=some (some (.ref f_MMusts_may_start_together)))
    (i_MMusts_may_start_together:PySem.W.isFn K (.ref f_MMusts_may_start_together)=true)
    (l_MMusts_may_start_together:K.lookup f_MMusts_may_start_together=some ⟨oc_MMusts_may_start_together,od_MMusts_may_start_together,.func (PySem.W.fnOf "may_start_together" "Kind.may_start_together" (defArgs (inClass (top 20) 7)) (defBody (inClass (top 20) 7)) (defScope (inClass (top 20) 7)) .none kV_MMusts_may_start_together dc_MMusts_may_start_together pm_MMusts_may_start_together an_MMusts_may_start_together cd_MMusts_may_start_together ct_MMusts_may_start_together),sl_MMusts_may_start_together⟩)
    (c_MMusts_may_start_together_:PySem.W.codeIn K cd_MMusts_may_start_together "Kind.may_start_together"=true)
    (k_MMusts_may_start_together:PySem.W.keepIn K (.ref f_MMusts_may_start_together)=true)
    (a_MRests_may_start_together:PySem.W.findIn K (.ref c_Rests) "may_start_together"=some (some (.ref f_MRests_may_start_together)))
    (i_MRests_may_start_together:PySem.W.isFn K (.ref f_MRests_may_start_together)=true)
    (l_MRests_may_start_together:K.lookup f_MRests_may_start_together=some ⟨oc_MRests_may_start_together,od_MRests_may_start_together,.func (PySem.W.fnOf "may_start_together" "Kind.may_start_together" (defArgs (inClass (top 20) 7)) (defBody (inClass (top 20) 7)) (defScope (inClass (top 20) 7)) .none kV_MRests_may_start_together dc_MRests_may_start_together pm_MRests_may_start_together an_MRests_may_start_together cd_MRests_may_start_together ct_MRests_may_start_together),sl_MRests_may_start_together⟩)
    (c_MRests_may_start_together_:PySem.W.codeIn K cd_MRests_may_start_together "Kind.may_start_together"=true)
    (k_MRests_may_start_together:PySem.W.keepIn K (.ref f_MRests_may_start_together)=true)
    (a_Dcheck_starts:PySem.W.nsIn K mainGlobals "check_starts"=some (some (.ref f_Dcheck_starts)))
    (l_Dcheck_starts:K.lookup f_Dcheck_starts=some ⟨oc_Dcheck_starts,od_Dcheck_starts,.func (PySem.W.fnOf "check_starts" "check_starts" (defArgs (top 33)) (defBody (top 33)) (defScope (top 33)) .none kV_Dcheck_starts dc_Dcheck_starts pm_Dcheck_starts an_Dcheck_starts cd_Dcheck_starts ct_Dcheck_starts),sl_Dcheck_starts⟩)
    (c_Dcheck_starts_:PySem.W.codeIn K cd_Dcheck_starts "check_starts"=true)
    (k_Dcheck_starts:PySem.W.keepIn K (.ref f_Dcheck_starts)=true)
    (a_Dcheck_worths:PySem.W.nsIn K mainGlobals "check_worths"=some (some (.ref f_Dcheck_worths)))
    (l_Dcheck_worths:K.lookup f_Dcheck_worths=some ⟨oc_Dcheck_worths,od_Dcheck_worths,.func (PySem.W.fnOf "check_worths" "check_worths" (defArgs (top 34)) (defBody (top 34)) (defScope (top 34)) .none kV_Dcheck_worths dc_Dcheck_worths pm_Dcheck_worths an_Dcheck_worths cd_Dcheck_worths ct_Dcheck_worths),sl_Dcheck_worths⟩)
    (c_Dcheck_worths_:PySem.W.codeIn K cd_Dcheck_worths "check_worths"=true)
    (k_Dcheck_worths:PySem.W.keepIn K (.ref f_Dcheck_worths)=true)
    (a_MNet_init:PySem.W.findIn K (.ref c_Net) "__init__"=some (some (.ref f_MNet_init)))
    (i_MNet_init:PySem.W.isFn K (.ref f_MNet_init)=true)
    (l_MNet_init:K.lookup f_MNet_init=some ⟨oc_MNet_init,od_MNet_init,.func (PySem.W.fnOf "__init__" "Net.__init__" (defArgs (inClass (top 36) 0)) (defBody (inClass (top 36) 0)) (defScope (inClass (top 36) 0)) .none kV_MNet_init dc_MNet_init pm_MNet_init an_MNet_init cd_MNet_init ct_MNet_init),sl_MNet_init⟩)
    (c_MNet_init_:PySem.W.codeIn K cd_MNet_init "Net.__init__"=true)
    (k_MNet_init:PySem.W.keepIn K (.ref f_MNet_init)=true)
    (a_MNet_kind:PySem.W.findIn K (.ref c_Net) "kind"=some (some (.ref f_MNet_kind)))
    (i_MNet_kind:PySem.W.isFn K (.ref f_MNet_kind)=true)
    (l_MNet_kind:K.lookup f_MNet_kind=some ⟨oc_MNet_kind,od_MNet_kind,.func (PySem.W.fnOf "kind" "Net.kind" (defArgs (inClass (top 36) 1)) (defBody (inClass (top 36) 1)) (defScope (inClass (top 36) 1)) .none kV_MNet_kind dc_MNet_kind pm_MNet_kind an_MNet_kind cd_MNet_kind ct_MNet_kind),sl_MNet_kind⟩)
    (c_MNet_kind_:PySem.W.codeIn K cd_MNet_kind "Net.kind"=true)
    (k_MNet_kind:PySem.W.keepIn K (.ref f_MNet_kind)=true)
    (a_MNet_places:PySem.W.findIn K (.ref c_Net) "places"=some (some (.ref f_MNet_places)))
    (i_MNet_places:PySem.W.isFn K (.ref f_MNet_places)=true)
    (l_MNet_places:K.lookup f_MNet_places=some ⟨oc_MNet_places,od_MNet_places,.func (PySem.W.fnOf "places" "Net.places" (defArgs (inClass (top 36) 2)) (defBody (inClass (top 36) 2)) (defScope (inClass (top 36) 2)) .none kV_MNet_places dc_MNet_places pm_MNet_places an_MNet_places cd_MNet_places ct_MNet_places),sl_MNet_places⟩)
    (c_MNet_places_:PySem.W.codeIn K cd_MNet_places "Net.places"=true)
    (k_MNet_places:PySem.W.keepIn K (.ref f_MNet_places)=true)
    (a_MNet_roads:PySem.W.findIn K (.ref c_Net) "roads"=some (some (.ref f_MNet_roads)))
    (i_MNet_roads:PySem.W.isFn K (.ref f_MNet_roads)=true)
    (l_MNet_roads:K.lookup f_MNet_roads=some ⟨oc_MNet_roads,od_MNet_roads,.func (PySem.W.fnOf "roads" "Net.roads" (defArgs (inClass (top 36) 3)) (defBody (inClass (top 36) 3)) (defScope (inClass (top 36) 3)) .none kV_MNet_roads dc_MNet_roads pm_MNet_roads an_MNet_roads cd_MNet_roads ct_MNet_roads),sl_MNet_roads⟩)
    (c_MNet_roads_:PySem.W.codeIn K cd_MNet_roads "Net.roads"=true)
    (k_MNet_roads:PySem.W.keepIn K (.ref f_MNet_roads)=true)
    (a_Dlaw_tog:PySem.W.nsIn K mainGlobals "_law_tog"=some (some (.ref f_Dlaw_tog)))
    (l_Dlaw_tog:K.lookup f_Dlaw_tog=some ⟨oc_Dlaw_tog,od_Dlaw_tog,.func (PySem.W.fnOf "_law_tog" "_law_tog" (defArgs (top 49)) (defBody (top 49)) (defScope (top 49)) .none kV_Dlaw_tog dc_Dlaw_tog pm_Dlaw_tog an_Dlaw_tog cd_Dlaw_tog ct_Dlaw_tog),sl_Dlaw_tog⟩)
    (c_Dlaw_tog_:PySem.W.codeIn K cd_Dlaw_tog "_law_tog"=true)
    (k_Dlaw_tog:PySem.W.keepIn K (.ref f_Dlaw_tog)=true)
    (a_Dlaw_beh:PySem.W.nsIn K mainGlobals "_law_beh"=some (some (.ref f_Dlaw_beh)))
    (l_Dlaw_beh:K.lookup f_Dlaw_beh=some ⟨oc_Dlaw_beh,od_Dlaw_beh,.func (PySem.W.fnOf "_law_beh" "_law_beh" (defArgs (top 50)) (defBody (top 50)) (defScope (top 50)) .none kV_Dlaw_beh dc_Dlaw_beh pm_Dlaw_beh an_Dlaw_beh cd_Dlaw_beh ct_Dlaw_beh),sl_Dlaw_beh⟩)
    (c_Dlaw_beh_:PySem.W.codeIn K cd_Dlaw_beh "_law_beh"=true)
    (k_Dlaw_beh:PySem.W.keepIn K (.ref f_Dlaw_beh)=true)
    (a_Dlaw_whole:PySem.W.nsIn K mainGlobals "_law_whole"=some (some (.ref f_Dlaw_whole)))
    (l_Dlaw_whole:K.lookup f_Dlaw_whole=some ⟨oc_Dlaw_whole,od_Dlaw_whole,.func (PySem.W.fnOf "_law_whole" "_law_whole" (defArgs (top 44)) (defBody (top 44)) (defScope (top 44)) .none kV_Dlaw_whole dc_Dlaw_whole pm_Dlaw_whole an_Dlaw_whole cd_Dlaw_whole ct_Dlaw_whole),sl_Dlaw_whole⟩)
    (c_Dlaw_whole_:PySem.W.codeIn K cd_Dlaw_whole "_law_whole"=true)
    (k_Dlaw_whole:PySem.W.keepIn K (.ref f_Dlaw_whole)=true)
    (a_Dlaw_is:PySem.W.nsIn K mainGlobals "_law_is"=some (some (.ref f_Dlaw_is)))
    (l_Dlaw_is:K.lookup f_Dlaw_is=some ⟨oc_Dlaw_is,od_Dlaw_is,.func (PySem.W.fnOf "_law_is" "_law_is" (defArgs (top 52)) (defBody (top 52)) (defScope (top 52)) .none kV_Dlaw_is dc_Dlaw_is pm_Dlaw_is an_Dlaw_is cd_Dlaw_is ct_Dlaw_is),sl_Dlaw_is⟩)
    (c_Dlaw_is_:PySem.W.codeIn K cd_Dlaw_is "_law_is"=true)
    (k_Dlaw_is:PySem.W.keepIn K (.ref f_Dlaw_is)=true)
    (a_Dlaw_thinned:PySem.W.nsIn K mainGlobals "_law_thinned"=some (some (.ref f_Dlaw_thinned)))
    (l_Dlaw_thinned:K.lookup f_Dlaw_thinned=some ⟨oc_Dlaw_thinned,od_Dlaw_thinned,.func (PySem.W.fnOf "_law_thinned" "_law_thinned" (defArgs (top 53)) (defBody (top 53)) (defScope (top 53)) .none kV_Dlaw_thinned dc_Dlaw_thinned pm_Dlaw_thinned an_Dlaw_thinned cd_Dlaw_thinned ct_Dlaw_thinned),sl_Dlaw_thinned⟩)
    (c_Dlaw_thinned_:PySem.W.codeIn K cd_Dlaw_thinned "_law_thinned"=true)
    (k_Dlaw_thinned:PySem.W.keepIn K (.ref f_Dlaw_thinned)=true)
    (a_Dlaw_net:PySem.W.nsIn K mainGlobals "_law_net"=some (some (.ref f_Dlaw_net)))
    (l_Dlaw_net:K.lookup f_Dlaw_net=some ⟨oc_Dlaw_net,od_Dlaw_net,.func (PySem.W.fnOf "_law_net" "_law_net" (defArgs (top 54)) (defBody (top 54)) (defScope (top 54)) .none kV_Dlaw_net dc_Dlaw_net pm_Dlaw_net an_Dlaw_net cd_Dlaw_net ct_Dlaw_net),sl_Dlaw_net⟩)
    (c_Dlaw_net_:PySem.W.codeIn K cd_Dlaw_net "_law_net"=true)
    (k_Dlaw_net:PySem.W.keepIn K (.ref f_Dlaw_net)=true)
    (a_Dcheck_place:PySem.W.nsIn K mainGlobals "check_place"=some (some (.ref f_Dcheck_place)))
    (l_Dcheck_place:K.lookup f_Dcheck_place=some ⟨oc_Dcheck_place,od_Dcheck_place,.func (PySem.W.fnOf "check_place" "check_place" (defArgs (top 35)) (defBody (top 35)) (defScope (top 35)) .none kV_Dcheck_place dc_Dcheck_place pm_Dcheck_place an_Dcheck_place cd_Dcheck_place ct_Dcheck_place),sl_Dcheck_place⟩)
    (c_Dcheck_place_:PySem.W.codeIn K cd_Dcheck_place "check_place"=true)
    (k_Dcheck_place:PySem.W.keepIn K (.ref f_Dcheck_place)=true)
    (a_Dstraight:PySem.W.nsIn K mainGlobals "straight"=some (some (.ref f_Dstraight)))
    (l_Dstraight:K.lookup f_Dstraight=some ⟨oc_Dstraight,od_Dstraight,.func (PySem.W.fnOf "straight" "straight" (defArgs (top 38)) (defBody (top 38)) (defScope (top 38)) .none kV_Dstraight dc_Dstraight pm_Dstraight an_Dstraight cd_Dstraight ct_Dstraight),sl_Dstraight⟩)
    (c_Dstraight_:PySem.W.codeIn K cd_Dstraight "straight"=true)
    (k_Dstraight:PySem.W.keepIn K (.ref f_Dstraight)=true)
    (a_Dled_through:PySem.W.nsIn K mainGlobals "led_through"=some (some (.ref f_Dled_through)))
    (l_Dled_through:K.lookup f_Dled_through=some ⟨oc_Dled_through,od_Dled_through,.func (PySem.W.fnOf "led_through" "led_through" (defArgs (top 39)) (defBody (top 39)) (defScope (top 39)) .none kV_Dled_through dc_Dled_through pm_Dled_through an_Dled_through cd_Dled_through ct_Dled_through),sl_Dled_through⟩)
    (c_Dled_through_:PySem.W.codeIn K cd_Dled_through "led_through"=true)
    (k_Dled_through:PySem.W.keepIn K (.ref f_Dled_through)=true)
    (a_Dtable:PySem.W.nsIn K mainGlobals "table"=some (some (.ref f_Dtable)))
    (l_Dtable:K.lookup f_Dtable=some ⟨oc_Dtable,od_Dtable,.func (PySem.W.fnOf "table" "table" (defArgs (top 40)) (defBody (top 40)) (defScope (top 40)) .none kV_Dtable dc_Dtable pm_Dtable an_Dtable cd_Dtable ct_Dtable),sl_Dtable⟩)
    (c_Dtable_:PySem.W.codeIn K cd_Dtable "table"=true)
    (k_Dtable:PySem.W.keepIn K (.ref f_Dtable)=true)
    (a_Dlaw_rounds:PySem.W.nsIn K mainGlobals "_law_rounds"=some (some (.ref f_Dlaw_rounds)))
    (l_Dlaw_rounds:K.lookup f_Dlaw_rounds=some ⟨oc_Dlaw_rounds,od_Dlaw_rounds,.func (PySem.W.fnOf "_law_rounds" "_law_rounds" (defArgs (top 55)) (defBody (top 55)) (defScope (top 55)) .none kV_Dlaw_rounds dc_Dlaw_rounds pm_Dlaw_rounds an_Dlaw_rounds cd_Dlaw_rounds ct_Dlaw_rounds),sl_Dlaw_rounds⟩)
    (c_Dlaw_rounds_:PySem.W.codeIn K cd_Dlaw_rounds "_law_rounds"=true)
    (k_Dlaw_rounds:PySem.W.keepIn K (.ref f_Dlaw_rounds)=true)
    (a_Dwithout:PySem.W.nsIn K mainGlobals "without"=some (some (.ref f_Dwithout)))
    (l_Dwithout:K.lookup f_Dwithout=some ⟨oc_Dwithout,od_Dwithout,.func (PySem.W.fnOf "without" "without" (defArgs (top 41)) (defBody (top 41)) (defScope (top 41)) .none kV_Dwithout dc_Dwithout pm_Dwithout an_Dwithout cd_Dwithout ct_Dwithout),sl_Dwithout⟩)
    (c_Dwithout_:PySem.W.codeIn K cd_Dwithout "without"=true)
    (k_Dwithout:PySem.W.keepIn K (.ref f_Dwithout)=true)
    (a_Dlaw_between:PySem.W.nsIn K mainGlobals "_law_between"=some (some (.ref f_Dlaw_between)))
    (l_Dlaw_between:K.lookup f_Dlaw_between=some ⟨oc_Dlaw_between,od_Dlaw_between,.func (PySem.W.fnOf "_law_between" "_law_between" (defArgs (top 56)) (defBody (top 56)) (defScope (top 56)) .none kV_Dlaw_between dc_Dlaw_between pm_Dlaw_between an_Dlaw_between cd_Dlaw_between ct_Dlaw_between),sl_Dlaw_between⟩)
    (c_Dlaw_between_:PySem.W.codeIn K cd_Dlaw_between "_law_between"=true)
    (k_Dlaw_between:PySem.W.keepIn K (.ref f_Dlaw_between)=true)
    (a_Dlaw_due:PySem.W.nsIn K mainGlobals "_law_due"=some (some (.ref f_Dlaw_due)))
    (l_Dlaw_due:K.lookup f_Dlaw_due=some ⟨oc_Dlaw_due,od_Dlaw_due,.func (PySem.W.fnOf "_law_due" "_law_due" (defArgs (top 57)) (defBody (top 57)) (defScope (top 57)) .none kV_Dlaw_due dc_Dlaw_due pm_Dlaw_due an_Dlaw_due cd_Dlaw_due ct_Dlaw_due),sl_Dlaw_due⟩)
    (c_Dlaw_due_:PySem.W.codeIn K cd_Dlaw_due "_law_due"=true)
    (k_Dlaw_due:PySem.W.keepIn K (.ref f_Dlaw_due)=true)
    (a_Dlaw_same_sums:PySem.W.nsIn K mainGlobals "_law_same_sums"=some (some (.ref f_Dlaw_same_sums)))
    (l_Dlaw_same_sums:K.lookup f_Dlaw_same_sums=some ⟨oc_Dlaw_same_sums,od_Dlaw_same_sums,.func (PySem.W.fnOf "_law_same_sums" "_law_same_sums" (defArgs (top 58)) (defBody (top 58)) (defScope (top 58)) .none kV_Dlaw_same_sums dc_Dlaw_same_sums pm_Dlaw_same_sums an_Dlaw_same_sums cd_Dlaw_same_sums ct_Dlaw_same_sums),sl_Dlaw_same_sums⟩)
    (c_Dlaw_same_sums_:PySem.W.codeIn K cd_Dlaw_same_sums "_law_same_sums"=true)
    (k_Dlaw_same_sums:PySem.W.keepIn K (.ref f_Dlaw_same_sums)=true)
    (a_Dlaw:PySem.W.nsIn K mainGlobals "law"=some (some (.ref f_Dlaw)))
    (l_Dlaw:K.lookup f_Dlaw=some ⟨oc_Dlaw,od_Dlaw,.func (PySem.W.fnOf "law" "law" (defArgs (top 59)) (defBody (top 59)) (defScope (top 59)) .none kV_Dlaw dc_Dlaw pm_Dlaw an_Dlaw cd_Dlaw ct_Dlaw),sl_Dlaw⟩)
    (c_Dlaw_:PySem.W.codeIn K cd_Dlaw "law"=true)
    (k_Dlaw:PySem.W.keepIn K (.ref f_Dlaw)=true) :
    ∃ fd:FuncData,(∀ (s:Shared) (v:Value),BindsTo s fd ⟨[v],[]⟩ [("script",v)])∧∀ base:Heap,K.In base→base.Ns mainGlobals mg→FnOk l.prog w K mg base (CXE l.prog w) 42 fa fd ["script"] (spLaw K):=by
  have e:=hfa.symm.trans (PySem.W.mg_of X G a_Dlaw)
  cases e
  refine ⟨PySem.W.fnOf "law" "law" (defArgs (top 59)) (defBody (top 59)) (defScope (top 59)) .none kV_Dlaw dc_Dlaw pm_Dlaw an_Dlaw cd_Dlaw ct_Dlaw,fun s v=>.of_eq rfl,fun base _ _=>?_⟩
  have F_law:=fun_mk (st:=(top 59)) l_Dlaw c_Dlaw_ k_Dlaw
  let a:Adr:=⟨c_SumError,c_NoNet,c_NoWorth,c_NoPlace,c_NoSum,c_Kind,c_Fewest,c_Widest,c_Counted,c_Likeliest,c_Chances,c_Musts,c_Rests,c_Net,t_WIDEST,t_MOST_RESTS,t_MOST_PLACES,t_MOST_ROADS⟩
  have T:Tx K mg a:=⟨PySem.W.mg_none_of X G z_isinstance,
    PySem.W.mg_none_of X G z_len,
    PySem.W.mg_none_of X G z_int,
    PySem.W.mg_none_of X G z_bool,
    PySem.W.mg_none_of X G z_tuple,
    PySem.W.mg_none_of X G z_list,
    PySem.W.mg_none_of X G z_ValueError,
    PySem.W.mg_none_of X G z_range,
    PySem.W.mg_none_of X G z_min,
    PySem.W.mg_none_of X G z_max,
    PySem.W.mg_none_of X G z_enumerate,
    PySem.W.mg_of X G g_WIDEST,
    PySem.W.mg_of X G g_MOST_RESTS,
    PySem.W.mg_of X G g_MOST_PLACES,
    PySem.W.mg_of X G g_MOST_ROADS,
    PySem.W.mg_of X G g_SumError,
    PySem.W.mg_of X G g_NoNet,
    PySem.W.mg_of X G g_NoWorth,
    PySem.W.mg_of X G g_NoPlace,
    PySem.W.mg_of X G g_NoSum,
    PySem.W.mg_of X G g_Kind,
    PySem.W.mg_of X G g_Fewest,
    PySem.W.mg_of X G g_Widest,
    PySem.W.mg_of X G g_Counted,
    PySem.W.mg_of X G g_Likeliest,
    PySem.W.mg_of X G g_Chances,
    PySem.W.mg_of X G g_Musts,
    PySem.W.mg_of X G g_Rests,
    PySem.W.mg_of X G g_Net,
    PySem.W.mg_of X G g_NoSum,
    ⟨PySem.W.mg_of X G g_NoNet,xo_NoNet⟩,
    ⟨xa_NoNet,xb_NoNet,xc_NoNet,xd_NoNet,xe_NoNet,xf_NoNet⟩,
    ⟨PySem.W.mg_of X G g_NoPlace,xo_NoPlace⟩,
    ⟨xa_NoPlace,xb_NoPlace,xc_NoPlace,xd_NoPlace,xe_NoPlace,xf_NoPlace⟩,
    ⟨PySem.W.mg_of X G g_NoSum,xo_NoSum⟩,
    ⟨xa_NoSum,xb_NoSum,xc_NoSum,xd_NoSum,xe_NoSum,xf_NoSum⟩,
    xm_NoSum_NoSum,
    ⟨PySem.W.mg_of X G g_NoWorth,xo_NoWorth⟩,
    ⟨xa_NoWorth,xb_NoWorth,xc_NoWorth,xd_NoWorth,xe_NoWorth,xf_NoWorth⟩,
    ⟨PySem.W.mg_of X G g_Fewest,mk_Fewest,in_Fewest,kp_Fewest⟩,
    ⟨PySem.W.mg_of X G g_Widest,mk_Widest,in_Widest,kp_Widest⟩,
    ⟨PySem.W.mg_of X G g_Counted,mk_Counted,in_Counted,kp_Counted⟩,
    ⟨PySem.W.mg_of X G g_Likeliest,mk_Likeliest,in_Likeliest,kp_Likeliest⟩,
    ⟨PySem.W.mg_of X G g_Chances,mk_Chances,in_Chances,kp_Chances⟩,
    ⟨PySem.W.mg_of X G g_Musts,mk_Musts,in_Musts,kp_Musts⟩,
    mk_Rests,
    kp_Rests,
    na_Rests_m,
    mk_Net,
    kp_Net,
    na_Net_own_kind,
    na_Net_how_many,
    na_Net_own_roads,
    ⟨pg_Net,hd_Net,po_Net,sa_Net⟩,
    (fun kd hk=>by cases kd <;> first | exact ⟨pg_Fewest,hd_Fewest,po_Fewest,sa_Fewest⟩ | exact ⟨pg_Widest,hd_Widest,po_Widest,sa_Widest⟩ | exact ⟨pg_Counted,hd_Counted,po_Counted,sa_Counted⟩ | exact ⟨pg_Likeliest,hd_Likeliest,po_Likeliest,sa_Likeliest⟩ | exact ⟨pg_Chances,hd_Chances,po_Chances,sa_Chances⟩ | exact ⟨pg_Musts,hd_Musts,po_Musts,sa_Musts⟩ | exact ⟨pg_Rests,hd_Rests,po_Rests,sa_Rests⟩ | exact absurd hk (by simp [HasK]))⟩
  have D_divisor:=d_divisor (P:=l.prog) (w:=w) (base:=base) (defAt_mk (st:=(top 8)) X G a_Ddivisor l_Ddivisor c_Ddivisor_ k_Ddivisor)
  have M_Rests:=make_Rests (P:=l.prog) (w:=w) (base:=base) T (mthAt_mk (st:=(inClass (top 27) 0)) a_MRests_init i_MRests_init l_MRests_init c_MRests_init_ k_MRests_init)
  have D_law_cell_at:=d_cell (P:=l.prog) (w:=w) (base:=base) T (defAt_mk (st:=(top 43)) X G a_Dlaw_cell_at l_Dlaw_cell_at c_Dlaw_cell_at_ k_Dlaw_cell_at)
  have D_law_kind:=d_kind (P:=l.prog) (w:=w) (base:=base) T M_Rests (defAt_mk (st:=(top 45)) X G a_Dlaw_kind l_Dlaw_kind c_Dlaw_kind_ k_Dlaw_kind)
  have D_law_share:=d_share (P:=l.prog) (w:=w) (base:=base) hP T (defAt_mk (st:=(top 46)) X G a_Dlaw_share l_Dlaw_share c_Dlaw_share_ k_Dlaw_share)
  have D_law_none:=d_none (P:=l.prog) (w:=w) (base:=base) (defAt_mk (st:=(top 47)) X G a_Dlaw_none l_Dlaw_none c_Dlaw_none_ k_Dlaw_none)
  have D_law_rest:=d_rest (P:=l.prog) (w:=w) (base:=base) (defAt_mk (st:=(top 48)) X G a_Dlaw_rest l_Dlaw_rest c_Dlaw_rest_ k_Dlaw_rest)
  have D_law_worth:=d_worth (P:=l.prog) (w:=w) (base:=base) T D_law_none D_law_rest D_law_share (defAt_mk (st:=(top 51)) X G a_Dlaw_worth l_Dlaw_worth c_Dlaw_worth_ k_Dlaw_worth)
  have D_lowest:=d_lowest (P:=l.prog) (w:=w) (base:=base) hP D_divisor (defAt_mk (st:=(top 10)) X G a_Dlowest l_Dlowest c_Dlowest_ k_Dlowest)
  have D_added:=d_added (P:=l.prog) (w:=w) (base:=base) D_lowest (defAt_mk (st:=(top 11)) X G a_Dadded l_Dadded c_Dadded_ k_Dadded)
  have D_multiplied:=d_multiplied (P:=l.prog) (w:=w) (base:=base) D_lowest (defAt_mk (st:=(top 12)) X G a_Dmultiplied l_Dmultiplied c_Dmultiplied_ k_Dmultiplied)
  have D_greater:=d_greater (P:=l.prog) (w:=w) (base:=base) (defAt_mk (st:=(top 13)) X G a_Dgreater l_Dgreater c_Dgreater_ k_Dgreater)
  have D_lacking_to_one:=d_lacking (P:=l.prog) (w:=w) (base:=base) D_lowest (defAt_mk (st:=(top 14)) X G a_Dlacking_to_one l_Dlacking_to_one c_Dlacking_to_one_ k_Dlacking_to_one)
  have D_raised:=d_raised (P:=l.prog) (w:=w) (base:=base) (defAt_mk (st:=(top 19)) X G a_Draised l_Draised c_Draised_ k_Draised)
  have V_none:=v_none (P:=l.prog) (w:=w) (base:=base) T ⟨(mthAt_mk (st:=(inClass (top 21) 0)) a_MFewest_none i_MFewest_none l_MFewest_none c_MFewest_none_ k_MFewest_none),(mthAt_mk (st:=(inClass (top 22) 0)) a_MWidest_none i_MWidest_none l_MWidest_none c_MWidest_none_ k_MWidest_none),(mthAt_mk (st:=(inClass (top 23) 0)) a_MCounted_none i_MCounted_none l_MCounted_none c_MCounted_none_ k_MCounted_none),(mthAt_mk (st:=(inClass (top 24) 0)) a_MLikeliest_none i_MLikeliest_none l_MLikeliest_none c_MLikeliest_none_ k_MLikeliest_none),(mthAt_mk (st:=(inClass (top 25) 0)) a_MChances_none i_MChances_none l_MChances_none c_MChances_none_ k_MChances_none),(mthAt_mk (st:=(inClass (top 26) 0)) a_MMusts_none i_MMusts_none l_MMusts_none c_MMusts_none_ k_MMusts_none),(mthAt_mk (st:=(inClass (top 27) 1)) a_MRests_none i_MRests_none l_MRests_none c_MRests_none_ k_MRests_none)⟩
  have V_rest:=v_rest (P:=l.prog) (w:=w) (base:=base) T ⟨(mthAt_mk (st:=(inClass (top 21) 1)) a_MFewest_rest i_MFewest_rest l_MFewest_rest c_MFewest_rest_ k_MFewest_rest),(mthAt_mk (st:=(inClass (top 22) 1)) a_MWidest_rest i_MWidest_rest l_MWidest_rest c_MWidest_rest_ k_MWidest_rest),(mthAt_mk (st:=(inClass (top 23) 1)) a_MCounted_rest i_MCounted_rest l_MCounted_rest c_MCounted_rest_ k_MCounted_rest),(mthAt_mk (st:=(inClass (top 24) 1)) a_MLikeliest_rest i_MLikeliest_rest l_MLikeliest_rest c_MLikeliest_rest_ k_MLikeliest_rest),(mthAt_mk (st:=(inClass (top 25) 1)) a_MChances_rest i_MChances_rest l_MChances_rest c_MChances_rest_ k_MChances_rest),(mthAt_mk (st:=(inClass (top 26) 1)) a_MMusts_rest i_MMusts_rest l_MMusts_rest c_MMusts_rest_ k_MMusts_rest),(mthAt_mk (st:=(inClass (top 27) 2)) a_MRests_rest i_MRests_rest l_MRests_rest c_MRests_rest_ k_MRests_rest)⟩
  have V_together:=v_together (P:=l.prog) (w:=w) (base:=base) T D_greater D_added ⟨(mthAt_mk (st:=(inClass (top 21) 3)) a_MFewest_together i_MFewest_together l_MFewest_together c_MFewest_together_ k_MFewest_together),(mthAt_mk (st:=(inClass (top 22) 3)) a_MWidest_together i_MWidest_together l_MWidest_together c_MWidest_together_ k_MWidest_together),(mthAt_mk (st:=(inClass (top 23) 3)) a_MCounted_together i_MCounted_together l_MCounted_together c_MCounted_together_ k_MCounted_together),(mthAt_mk (st:=(inClass (top 24) 3)) a_MLikeliest_together i_MLikeliest_together l_MLikeliest_together c_MLikeliest_together_ k_MLikeliest_together),(mthAt_mk (st:=(inClass (top 25) 3)) a_MChances_together i_MChances_together l_MChances_together c_MChances_together_ k_MChances_together),(mthAt_mk (st:=(inClass (top 26) 3)) a_MMusts_together i_MMusts_together l_MMusts_together c_MMusts_together_ k_MMusts_together),(mthAt_mk (st:=(inClass (top 27) 4)) a_MRests_together i_MRests_together l_MRests_together c_MRests_together_ k_MRests_together)⟩
  have V_behind:=v_behind (P:=l.prog) (w:=w) (base:=base) T D_multiplied D_raised ⟨(mthAt_mk (st:=(inClass (top 21) 4)) a_MFewest_behind i_MFewest_behind l_MFewest_behind c_MFewest_behind_ k_MFewest_behind),(mthAt_mk (st:=(inClass (top 22) 4)) a_MWidest_behind i_MWidest_behind l_MWidest_behind c_MWidest_behind_ k_MWidest_behind),(mthAt_mk (st:=(inClass (top 23) 4)) a_MCounted_behind i_MCounted_behind l_MCounted_behind c_MCounted_behind_ k_MCounted_behind),(mthAt_mk (st:=(inClass (top 24) 4)) a_MLikeliest_behind i_MLikeliest_behind l_MLikeliest_behind c_MLikeliest_behind_ k_MLikeliest_behind),(mthAt_mk (st:=(inClass (top 25) 4)) a_MChances_behind i_MChances_behind l_MChances_behind c_MChances_behind_ k_MChances_behind),(mthAt_mk (st:=(inClass (top 26) 4)) a_MMusts_behind i_MMusts_behind l_MMusts_behind c_MMusts_behind_ k_MMusts_behind),(mthAt_mk (st:=(inClass (top 27) 5)) a_MRests_behind i_MRests_behind l_MRests_behind c_MRests_behind_ k_MRests_behind)⟩
  have V_rounds:=v_rounds (P:=l.prog) (w:=w) (base:=base) T V_none V_rest V_together V_behind D_lacking_to_one ⟨(mthAt_mk (st:=(inClass (top 20) 5)) a_MFewest_rounds i_MFewest_rounds l_MFewest_rounds c_MFewest_rounds_ k_MFewest_rounds),(mthAt_mk (st:=(inClass (top 20) 5)) a_MWidest_rounds i_MWidest_rounds l_MWidest_rounds c_MWidest_rounds_ k_MWidest_rounds),(mthAt_mk (st:=(inClass (top 23) 5)) a_MCounted_rounds i_MCounted_rounds l_MCounted_rounds c_MCounted_rounds_ k_MCounted_rounds),(mthAt_mk (st:=(inClass (top 20) 5)) a_MLikeliest_rounds i_MLikeliest_rounds l_MLikeliest_rounds c_MLikeliest_rounds_ k_MLikeliest_rounds),(mthAt_mk (st:=(inClass (top 25) 5)) a_MChances_rounds i_MChances_rounds l_MChances_rounds c_MChances_rounds_ k_MChances_rounds),(mthAt_mk (st:=(inClass (top 20) 5)) a_MMusts_rounds i_MMusts_rounds l_MMusts_rounds c_MMusts_rounds_ k_MMusts_rounds),(mthAt_mk (st:=(inClass (top 27) 6)) a_MRests_rounds i_MRests_rounds l_MRests_rounds c_MRests_rounds_ k_MRests_rounds)⟩
  have D_is_from:=d_is_from (P:=l.prog) (w:=w) (base:=base) T (defAt_mk (st:=(top 18)) X G a_Dis_from l_Dis_from c_Dis_from_ k_Dis_from)
  have D_is_share:=d_is_share (P:=l.prog) (w:=w) (base:=base) T D_divisor (defAt_mk (st:=(top 9)) X G a_Dis_share l_Dis_share c_Dis_share_ k_Dis_share)
  have V_is_worth:=v_is_worth (P:=l.prog) (w:=w) (base:=base) T D_is_from D_is_share ⟨(mthAt_mk (st:=(inClass (top 21) 2)) a_MFewest_is_worth i_MFewest_is_worth l_MFewest_is_worth c_MFewest_is_worth_ k_MFewest_is_worth),(mthAt_mk (st:=(inClass (top 22) 2)) a_MWidest_is_worth i_MWidest_is_worth l_MWidest_is_worth c_MWidest_is_worth_ k_MWidest_is_worth),(mthAt_mk (st:=(inClass (top 23) 2)) a_MCounted_is_worth i_MCounted_is_worth l_MCounted_is_worth c_MCounted_is_worth_ k_MCounted_is_worth),(mthAt_mk (st:=(inClass (top 24) 2)) a_MLikeliest_is_worth i_MLikeliest_is_worth l_MLikeliest_is_worth c_MLikeliest_is_worth_ k_MLikeliest_is_worth),(mthAt_mk (st:=(inClass (top 25) 2)) a_MChances_is_worth i_MChances_is_worth l_MChances_is_worth c_MChances_is_worth_ k_MChances_is_worth),(mthAt_mk (st:=(inClass (top 26) 2)) a_MMusts_is_worth i_MMusts_is_worth l_MMusts_is_worth c_MMusts_is_worth_ k_MMusts_is_worth),(mthAt_mk (st:=(inClass (top 27) 3)) a_MRests_is_worth i_MRests_is_worth l_MRests_is_worth c_MRests_is_worth_ k_MRests_is_worth)⟩
  have D_check_numbers:=d_check_numbers (P:=l.prog) (w:=w) (base:=base) T (defAt_mk (st:=(top 31)) X G a_Dcheck_numbers l_Dcheck_numbers c_Dcheck_numbers_ k_Dcheck_numbers)
  have D_check_ends:=d_check_ends (P:=l.prog) (w:=w) (base:=base) T (defAt_mk (st:=(top 32)) X G a_Dcheck_ends l_Dcheck_ends c_Dcheck_ends_ k_Dcheck_ends)
  have V_may_start_together:=v_may (P:=l.prog) (w:=w) (base:=base) T V_none D_is_share D_added D_lacking_to_one ⟨(mthAt_mk (st:=(inClass (top 20) 7)) a_MFewest_may_start_together i_MFewest_may_start_together l_MFewest_may_start_together c_MFewest_may_start_together_ k_MFewest_may_start_together),(mthAt_mk (st:=(inClass (top 20) 7)) a_MWidest_may_start_together i_MWidest_may_start_together l_MWidest_may_start_together c_MWidest_may_start_together_ k_MWidest_may_start_together),(mthAt_mk (st:=(inClass (top 20) 7)) a_MCounted_may_start_together i_MCounted_may_start_together l_MCounted_may_start_together c_MCounted_may_start_together_ k_MCounted_may_start_together),(mthAt_mk (st:=(inClass (top 20) 7)) a_MLikeliest_may_start_together i_MLikeliest_may_start_together l_MLikeliest_may_start_together c_MLikeliest_may_start_together_ k_MLikeliest_may_start_together),(mthAt_mk (st:=(inClass (top 25) 6)) a_MChances_may_start_together i_MChances_may_start_together l_MChances_may_start_together c_MChances_may_start_together_ k_MChances_may_start_together),(mthAt_mk (st:=(inClass (top 20) 7)) a_MMusts_may_start_together i_MMusts_may_start_together l_MMusts_may_start_together c_MMusts_may_start_together_ k_MMusts_may_start_together),(mthAt_mk (st:=(inClass (top 20) 7)) a_MRests_may_start_together i_MRests_may_start_together l_MRests_may_start_together c_MRests_may_start_together_ k_MRests_may_start_together)⟩
  have D_check_starts:=d_check_starts (P:=l.prog) (w:=w) (base:=base) T V_may_start_together (defAt_mk (st:=(top 33)) X G a_Dcheck_starts l_Dcheck_starts c_Dcheck_starts_ k_Dcheck_starts)
  have D_check_worths:=d_check_worths (P:=l.prog) (w:=w) (base:=base) T V_is_worth (defAt_mk (st:=(top 34)) X G a_Dcheck_worths l_Dcheck_worths c_Dcheck_worths_ k_Dcheck_worths)
  have M_Net:=make_Net (P:=l.prog) (w:=w) (base:=base) T D_check_numbers D_check_ends D_check_starts D_check_worths (mthAt_mk (st:=(inClass (top 36) 0)) a_MNet_init i_MNet_init l_MNet_init c_MNet_init_ k_MNet_init)
  have V_kind:=v_kind (P:=l.prog) (w:=w) (base:=base) T (mthAt_mk (st:=(inClass (top 36) 1)) a_MNet_kind i_MNet_kind l_MNet_kind c_MNet_kind_ k_MNet_kind)
  have V_places:=v_places (P:=l.prog) (w:=w) (base:=base) T (mthAt_mk (st:=(inClass (top 36) 2)) a_MNet_places i_MNet_places l_MNet_places c_MNet_places_ k_MNet_places)
  have V_roads:=v_roads (P:=l.prog) (w:=w) (base:=base) T (mthAt_mk (st:=(inClass (top 36) 3)) a_MNet_roads i_MNet_roads l_MNet_roads c_MNet_roads_ k_MNet_roads)
  have D_law_tog:=d_tog (P:=l.prog) (w:=w) (base:=base) T D_law_share (defAt_mk (st:=(top 49)) X G a_Dlaw_tog l_Dlaw_tog c_Dlaw_tog_ k_Dlaw_tog)
  have D_law_beh:=d_beh (P:=l.prog) (w:=w) (base:=base) T D_law_share (defAt_mk (st:=(top 50)) X G a_Dlaw_beh l_Dlaw_beh c_Dlaw_beh_ k_Dlaw_beh)
  have D_law_whole:=d_whole (P:=l.prog) (w:=w) (base:=base) T (defAt_mk (st:=(top 44)) X G a_Dlaw_whole l_Dlaw_whole c_Dlaw_whole_ k_Dlaw_whole)
  have D_law_is:=d_is (P:=l.prog) (w:=w) (base:=base) T D_law_whole (defAt_mk (st:=(top 52)) X G a_Dlaw_is l_Dlaw_is c_Dlaw_is_ k_Dlaw_is)
  have D_law_thinned:=d_thinned (P:=l.prog) (w:=w) (base:=base) T D_law_tog D_law_share (defAt_mk (st:=(top 53)) X G a_Dlaw_thinned l_Dlaw_thinned c_Dlaw_thinned_ k_Dlaw_thinned)
  have D_law_net:=d_net (P:=l.prog) (w:=w) (base:=base) T D_law_cell_at D_law_worth D_law_thinned (defAt_mk (st:=(top 54)) X G a_Dlaw_net l_Dlaw_net c_Dlaw_net_ k_Dlaw_net)
  have D_check_place:=d_check_place (P:=l.prog) (w:=w) (base:=base) T V_places (defAt_mk (st:=(top 35)) X G a_Dcheck_place l_Dcheck_place c_Dcheck_place_ k_Dcheck_place)
  have D_straight:=d_straight (P:=l.prog) (w:=w) (base:=base) T V_kind V_places V_roads V_none V_together (defAt_mk (st:=(top 38)) X G a_Dstraight l_Dstraight c_Dstraight_ k_Dstraight)
  have D_led_through:=d_led (P:=l.prog) (w:=w) (base:=base) T V_rounds V_together V_behind (defAt_mk (st:=(top 39)) X G a_Dled_through l_Dled_through c_Dled_through_ k_Dled_through)
  have D_table:=d_table (P:=l.prog) (w:=w) (base:=base) T V_kind V_places V_rest V_together D_straight D_led_through (defAt_mk (st:=(top 40)) X G a_Dtable l_Dtable c_Dtable_ k_Dtable)
  have D_law_rounds:=d_rounds (P:=l.prog) (w:=w) (base:=base) T D_law_share D_law_rest D_law_beh (defAt_mk (st:=(top 55)) X G a_Dlaw_rounds l_Dlaw_rounds c_Dlaw_rounds_ k_Dlaw_rounds)
  have D_without:=d_without (P:=l.prog) (w:=w) (base:=base) T V_kind V_places V_none D_check_place D_straight D_led_through M_Net (defAt_mk (st:=(top 41)) X G a_Dwithout l_Dwithout c_Dwithout_ k_Dwithout)
  have D_law_between:=d_between (P:=l.prog) (w:=w) (base:=base) T D_law_none D_law_tog (defAt_mk (st:=(top 56)) X G a_Dlaw_between l_Dlaw_between c_Dlaw_between_ k_Dlaw_between)
  have D_law_due:=d_law_due (P:=l.prog) (w:=w) (base:=base) T D_law_none D_law_tog D_law_beh D_law_between D_law_rounds (defAt_mk (st:=(top 57)) X G a_Dlaw_due l_Dlaw_due c_Dlaw_due_ k_Dlaw_due)
  have D_law_same_sums:=d_same_sums (P:=l.prog) (w:=w) (base:=base) T D_table D_law_is (defAt_mk (st:=(top 58)) X G a_Dlaw_same_sums l_Dlaw_same_sums c_Dlaw_same_sums_ k_Dlaw_same_sums)
  exact ok_law T D_law_cell_at D_law_kind D_law_net M_Net D_without D_law_between D_law_rounds D_law_due V_places V_roads D_law_same_sums D_law_is F_law
theorem walk {l:PySem.W.OpenLaw} {q:Program} {loose:List Str} {XP:(Str→Option Value)→Heap→Prop} {YP:World→Heap→Prop} {d:DefRec} {K:Params→PySem.W.Frag} (hn:l.most=some 63) (hdf:d.params.defaults=[]) (him:PyProof.Rows.importsNone q=true)
    (hY:∀ (w:World) (h:Heap),YP w h→(K w.params).In h)
    (F:∀ (w:World) (mg:Str→Option Value) (fa:Addr) (h:Heap),(K w.params).In h→h.Ns mainGlobals mg→mg d.name=some (.ref fa) →
      ∃ fd:FuncData,(∀ (s:Shared) (u:Value),BindsTo s fd ⟨[u],[]⟩ [("script",u)])∧∀ base:Heap,(K w.params).In base→base.Ns mainGlobals mg→FnOk l.prog w (K w.params) mg base (CXE l.prog w) 42 fa fd ["script"] (spLaw (K w.params))) :
    PySem.W.WalkO q loose XP YP l.row.toRowW d [] (fun f vs=>PySem.call f vs) :=
  L2.walk_of (n:=63) (k:=42) (x:="script") (CX:=fun w=>CXE l.prog w) (sp:=fun w=>spLaw (K w.params)) hn (by decide) hdf ⟨rfl,by decide,by decide,rfl⟩ hY F (fun _ _ a ns hl _ hS=>⟨a,ns,rfl,hS,hl,fun _=>rfl⟩)
    (fun _ _ _ _ _ ⟨_,_,_,_,_,_,_,_,_,z⟩=>z) him
end
end K13
namespace PySem.W.Fast
def tw17983576066081178302:=()
def tw10309424199761092717:=()
def tw988592060046942994:=()
def tw576928814700548161:=()
def tw16778027901143810422:=()
def tw4213442499082248382:=()
def tw4125785125454332788:=()
def tw3278858083342496058:=()
def tw8381290813585102288:=()
def tw8390795732454775814:=()
def tw8394890595157930019:=()
def tw11245901023673780714:=()
def tw7378381584766245989:=()
def tw4258368515330803494:=()
def tw9554176575613697089:=()
def tw17199657293389369227:=()
def tw1060772141115956798:=()
def tw10128500910497501499:=()
def tw3934454137666615445:=()
def tw11152439127229389054:=()
def tw16855722803150637468:=()
def tw11737879154377110564:=()
def tw5735970155733540453:=()
def tw15473503048927106359:=()
def tw11079063581809440163:=()
def tw18106886141627324746:=()
def tw331030680845935720:=()
def tw10336497546997979896:=()
def tw18395992563185828322:=()
def tw4183250972678678538:=()
def tw16346835504404180307:=()
def tw13919416988278121393:=()
def tw9930208268252214268:=()
def tw3547153092636261547:=()
def tw7765516109964171237:=()
def tw9878591566474730063:=()
def tw3999231747005338736:=()
def tw2984496219077404478:=()
def tw17626633841694341349:=()
def tw17589884737999883602:=()
def tw12651825876177323447:=()
def tw7694492365968366709:=()
def tw6436180030611433840:=()
def tw6389778291110121894:=()
def tw1071345276053595071:=()
def tw1236393464483519823:=()
def tw14247172304401383338:=()
def tw12172806988756375147:=()
def tw8858868379587900947:=()
def tw4391627077170426533:=()
def tw2671438056198842770:=()
def tw15264769189009072210:=()
def tw2641550376325120032:=()
def tw12501279075054943178:=()
def tw14385748499685583995:=()
def tw12762539968480197669:=()
def tw5413189450428731687:=()
def tw2790053595900929803:=()
def tw3406270907627979978:=()
def tw18322295081377384046:=()
def tw17661512627916003748:=()
def tw2390561384937027807:=()
def tw5413420314149112488:=()
def tw345624882708063794:=()
def tw11355718737761678029:=()
def tw7844063395054072620:=()
def tw8881357973479233957:=()
def tw4067119184614000526:=()
def tw7725869353130236290:=()
def tw2263479923249656691:=()
def tw17446769230814480929:=()
def tw12570796484697561122:=()
def tw15667004519636002912:=()
def tw4966116650587057085:=()
def tw499971156274780778:=()
def tw16789542626785908314:=()
def tw8251640270199188279:=()
def tw9971400007973627182:=()
def tw15253111994251151873:=()
def tw11954820440538655432:=()
def tw2704240691234158886:=()
def tw8427095716855035035:=()
def tw9866445712111114834:=()
def tw1827391593151777011:=()
def tw12432616116802183979:=()
def tw6292497589631009589:=()
def tw3070443473365357899:=()
def tw15547318253685193430:=()
def tw12019468423435660005:=()
def tw6962796540100070587:=()
def tw14698896742897265308:=()
def tw11979358731016423040:=()
def tw1862301296408000563:=()
def tw16975026171619322417:=()
def tw5705053530200404750:=()
def tw98539097632250088:=()
def tw8788173584572795003:=()
def tw15268439296208925614:=()
def tw18226051693493489843:=()
def tw16307216227401680896:=()
def tw13312201233887955372:=()
def tw12918551459319548316:=()
def tw13726238851786728155:=()
def tw3311931440801729913:=()
def tw12401066777431789158:=()
def tw9153037744913404505:=()
def tw6161872903864618625:=()
def tw16035943998372451630:=()
def tw11812617688181749254:=()
def tw992913087715631062:=()
def tw8311456274948525154:=()
def tw15069976530867393270:=()
def tw2366235783550148531:=()
def tw11658549051885848387:=()
def tw2669016316403497206:=()
def tw16238736566006538555:=()
def tw3769598934281441788:=()
def tw8722048067950485696:=()
def tw9327647662936575211:=()
def tw16770632317620453287:=()
def tw842606185212259344:=()
def tw13294667083283243819:=()
def tw1489598192402977414:=()
def tw8942481358069045074:=()
def tw16002379081200990325:=()
def tw1399610894058499792:=()
def tw16102976136202638823:=()
def tw12458719286703569208:=()
def tw17946148761891252612:=()
def tw4148102009576379779:=()
def tw9233771914286700861:=()
def tw4949018059710091255:=()
def tw1244736645845598113:=()
def tw11230281437536658988:=()
def tw7150093307815170389:=()
def tw15465152821080940264:=()
def tw13375151185373818061:=()
def tw1255456017443176633:=()
def tw5276388746909821701:=()
def tw17500887126833168655:=()
def tw7369141995169000238:=()
def tw2401244893586781165:=()
def tw16892346256215159199:=()
def tw4025949618584935276:=()
def tw17701273632556522920:=()
def tw1087118650912802380:=()
def tw597652620893958127:=()
def tw12205611780708766335:=()
def tw10364980765533431554:=()
def tw9055624404497664468:=()
def tw4857309586346526655:=()
def tw7686072303188146610:=()
def tw7968415487051863029:=()
def tw9943374184388809001:=()
def tw13476717761768119552:=()
def tw3484352615243947136:=()
def tw8461979050368536637:=()
def tw11246303527728667742:=()
def tw5770348400236965761:=()
def tw9636703030576620697:=()
def tw9098189174858216309:=()
def tw8990822597715023926:=()
def tw2699862402441788621:=()
def tw3630398549377961926:=()
def tw16474654689505028831:=()
def tw7742911052203988555:=()
def tw8231910400814891999:=()
def tw6656900236365594505:=()
def tw18364502626139659729:=()
def tw11217519589327753632:=()
def tw3312092308805289512:=()
def tw18312967321460251488:=()
def tw8743108286037038685:=()
def tw15247944593316043322:=()
def tw17821889256015198811:=()
def tw18339815603315249502:=()
def tw5309456026061245047:=()
def tw11578122789493775217:=()
def tw4188111583591171637:=()
def tw18331814417633494796:=()
def tw2732938760819380948:=()
def tw11025133322708427133:=()
def tw14858063526978754179:=()
def tw4123036066521498709:=()
def tw4920828960202463969:=()
def tw7245190438118977796:=()
def tw8701356251216826331:=()
def tw16219615907603377892:=()
def tw6857233474920805962:=()
def tw18080152553275179188:=()
def tw10367070498301858751:=()
def tw3259517683943362233:=()
def tw6638096485469350625:=()
def tw12976115127279801550:=()
def tw8673320367354122542:=()
def tw4193612723067538336:=()
def tw13221370458394560314:=()
def tw6728497188181782713:=()
def tw2781791614490897992:=()
def tw7198987513222441305:=()
def tw16100976705556347712:=()
def tw13617552806459393359:=()
def tw2724753880560605907:=()
def tw15549544915235549619:=()
def tw5483053626084193580:=()
def tw4714055032127113090:=()
def tw7008218687641190497:=()
def tw6915834086241969489:=()
def tw12614289055014576522:=()
def tw9282912319242630178:=()
def tw13833751893110135282:=()
def tw4906785146968491372:=()
def tw4219898851135022419:=()
def tw13102391698783473860:=()
def tw16848129675214569176:=()
def tw17458826168007525250:=()
def tw5098413914905585464:=()
def tw12081691296837866624:=()
def tw16850889137027677190:=()
def tw8078030984632871155:=()
def tw4042674613633180165:=()
def tw1083270101125187487:=()
def tw13159109543973699155:=()
def tw8913210988305311004:=()
def tw9627317500397379072:=()
def tw10677984373538009459:=()
def tw9774522475143036824:=()
def tw1354714314707544500:=()
def tw1586133264854522276:=()
def tw16744048258806755027:=()
def tw13971797769306664360:=()
def tw15113861281017916545:=()
def tw17535056686842781845:=()
def tw4386246509260373348:=()
def tw16435075222751214754:=()
def tw11943107073278020490:=()
def tw10428292776551483358:=()
def tw12707345915363301204:=()
def tw14953161134177378546:=()
def tw16277515658402252641:=()
def tw11972422416517891890:=()
def tw7412525878757585969:=()
def tw7669759161640044019:=()
def tw5417759833036381065:=()
def tw13692147078511144069:=()
def tw4292838715497488018:=()
def tw17224459813736837774:=()
def tw343223800064917055:=()
def tw10503537695822420773:=()
def tw13386618491964238202:=()
def tw879479571190805381:=()
def tw10498167350622871249:=()
def tw3639185288119723775:=()
def tw9947068099044751466:=()
def tw11902368238657494686:=()
def tw17147002729701757616:=()
def tw15797292533018930487:=()
def tw11631771762279494477:=()
def tw7540081980639708946:=()
def tw7049612331003164595:=()
def tw10724491092419014825:=()
def tw8817321119872633581:=()
def tw12869941714584674156:=()
def tw4686165588691851348:=()
def tw4732979681380154586:=()
def tw1425289194895106500:=()
def tw4742088426555864025:=()
def tw8736300228552107246:=()
def tw10087606492292104383:=()
def tw7883859053796116232:=()
def tw4256358880788104400:=()
def tw2165165810175869750:=()
def tw8931890139898683778:=()
def tw4344340236634983099:=()
def tw674603052905453395:=()
def tw9842464757811464787:=()
def tw2875545637663756345:=()
def tw7135711290150587789:=()
def tw17880766195146757453:=()
def tw5457387630590020531:=()
def tw2177930699967274999:=()
def tw18325604083690132957:=()
def tw16029815462487402494:=()
def tw17917352954813647584:=()
def tw5763911450655755778:=()
def tw3009941657224291466:=()
def tw17163033763646209770:=()
def tw8899416143902181605:=()
def tw10434264597463450330:=()
def tw11242350358151962783:=()
def tw4189358231647461541:=()
def tw16358849913136449865:=()
def tw16261732194220639770:=()
def tw13681050056789221164:=()
def tw4456036300174854891:=()
def tw823670979297760952:=()
def tw15582208383757052878:=()
def tw8568651532634209215:=()
def tw15712713757769147089:=()
def tw9919353295444352842:=()
def tw6255580578695820608:=()
def tw4235778719941215679:=()
def tw11795765269674975153:=()
def tw12355834606599758743:=()
def tw3000943800143578238:=()
def tw13449593288897067326:=()
def tw13328248685754261667:=()
def tw18137265080818065410:=()
def tw14679140394623850497:=()
def tw928933862146565200:=()
def tw15008529787696171301:=()
def tw3562378653139896338:=()
def tw5475476156983641210:=()
def tw10681745127592147519:=()
def tw8615320121030347745:=()
def tw12192931644511261434:=()
def tw9976489043897230906:=()
def tw4815401805695969125:=()
def tw16393809348907746056:=()
def tw2934011408724031385:=()
def tw16510796073230036689:=()
def tw3768700148033263099:=()
def tw738814071775842627:=()
def tw15695767743789874386:=()
def tw1832588763274762099:=()
def tw6127993491847117048:=()
def tw9687679437735923898:=()
def tw12588142199306997199:=()
def tw6554585314182884237:=()
def tw11660868277098236234:=()
def tw16209404204406907974:=()
def tw15771996188457644568:=()
def tw6452858172451851989:=()
def tw4094096120115889379:=()
def tw1290573616672357920:=()
def tw2674229704783588651:=()
def tw1059327139703079405:=()
def tw4833911243984703810:=()
def tw7933101304185782914:=()
def tw11915121466967338843:=()
def tw811057474832769770:=()
def tw122828014263504100:=()
def tw700510345312566175:=()
def tw7868079117406127105:=()
def tw8852880548786602244:=()
def tw7220706631193780962:=()
def tw4766766957518175767:=()
def tw15986682732272992794:=()
def tw535486778698434537:=()
def tw13378559453552107405:=()
def tw15585819031878145446:=()
def tw5951094632286788118:=()
def tw14644589386471523907:=()
def tw5068849234764059439:=()
def tw2171893375320324119:=()
def tw17442838219826470869:=()
def tw4388832552133975232:=()
def tw1269514037518548325:=()
def tw2410403930035749590:=()
def tw6409682040512671175:=()
def tw6047336504963807428:=()
def tw6883012399893115978:=()
def tw10838393063708977727:=()
def tw12094548863339105181:=()
def tw11639291273070531877:=()
def tw6014078132754581927:=()
def tw6331427620021411738:=()
def tw76753260975503230:=()
def tw2640554086965587916:=()
def tw4569476910009737052:=()
def tw12878109309241562561:=()
def tw14581259784756997323:=()
def tw11590615687368885909:=()
def tw3162494785803505503:=()
def tw9339974734958504990:=()
def tw5932353840870067979:=()
def tw5106310057981239955:=()
def tw3837555792719826020:=()
def tw7970469380191684544:=()
def tw2309963579996456729:=()
def tw3770901624805814172:=()
def tw9008537929577680203:=()
def tw10634317168452834349:=()
def tw15004308511539484307:=()
def tw16641775798375281611:=()
def tw4124566003077625886:=()
def tw8020828183269506354:=()
def tw12696232702060166822:=()
def tw12809955717291866323:=()
def tw14377068018793038923:=()
def tw14873839268885016475:=()
def tw8004081540802422499:=()
def tw15068428095980239788:=()
def tw1552288036003174680:=()
def tw3038150170132903571:=()
def tw8794730696006270854:=()
def tw11012753299918500497:=()
def tw15264296019684531262:=()
def tw11242532645205834230:=()
def tw1494580510960605468:=()
def tw16567022145518962684:=()
def tw17178327195341103356:=()
def tw8558799670828210213:=()
def tw13130656569016009299:=()
def tw3621409259573661519:=()
def tw12579030313115888743:=()
def tw8054517823443602402:=()
def tw7908301678724853459:=()
def tw18066268804711930631:=()
def tw5904245601575058625:=()
def tw7519200839606642078:=()
def tw20090604711641048:=()
def tw9084229781218753880:=()
def tw15118257359306614092:=()
def tw8411102112711251866:=()
def tw14339574882177451962:=()
def tw13376155693868166812:=()
def tw9891031272973674005:=()
def tw9102628539636222435:=()
def tw95498512921071004:=()
def tw11320338841005231472:=()
def tw16102616665558173700:=()
def tw2538553789689122080:=()
def tw16220375492737148351:=()
def tw7607590232901085022:=()
def tw359730087575980828:=()
def tw8503330222726932451:=()
def tw2471286108340162226:=()
def tw828338733762478023:=()
def tw2340483053168268557:=()
def tw13613417285147072822:=()
def tw11990496141405034211:=()
def tw4562011525645194528:=()
def tw13217962793426764469:=()
def tw16450681455382907784:=()
def tw5481851249519865501:=()
def tw3780034194685960297:=()
def tw11841665181143919502:=()
def tw10240318721483405838:=()
def tw6419258504411461166:=()
def tw8564826521848307702:=()
def tw1653958655849983766:=()
def tw8640808297939924547:=()
def tw9719605405116131330:=()
def tw8655947648627294761:=()
def tw7078447567468166611:=()
def tw2364941153025081627:=()
def tw9301308572717363376:=()
def tw14783677189572055431:=()
def tw11320453377765302685:=()
def tw4076149340701352676:=()
def tw6485657304562897070:=()
def tw16224290035275820356:=()
def tw16035354669184167411:=()
def tw17596884697170484573:=()
def tw8028982783858649936:=()
def tw5116411194102103458:=()
def tw6438355085418101627:=()
def tw3301103239562254417:=()
def tw16430044788026440606:=()
def tw1114033566808229274:=()
def tw12340965278974600734:=()
def tw6110252054962386830:=()
def tw14405152242598630060:=()
def tw15481200056144037751:=()
def tw11781620051581062104:=()
def tw1047812968245672914:=()
def tw7813302602664736300:=()
def tw1163857264416536782:=()
def tw8990414024568446171:=()
def tw15778153647917012510:=()
def tw15173974746341166962:=()
def tw6792638450852902537:=()
def tw18136894103107424944:=()
def tw11965880763690256195:=()
def tw3073410172732110014:=()
def tw612196513018539211:=()
def tw8502744541005937434:=()
def tw610481767167382602:=()
def tw6164838446788145912:=()
def tw1219349820504619600:=()
def tw9240613805398927991:=()
def tw1978740300138276158:=()
def tw3945032777596116554:=()
def tw12694561797083079741:=()
def tw3492878369464492117:=()
def tw17790093967010154847:=()
def tw14665403386055620107:=()
def tw15698539477321113094:=()
def tw8199963449636034363:=()
def tw6756632523263792208:=()
def tw2389417523994744500:=()
def tw16658809289364937324:=()
def tw7833427875623349933:=()
def tw10066850904772344570:=()
def tw17520241988187854244:=()
def tw9351553698665212247:=()
def tw3789072903673313789:=()
def tw15691341714974695724:=()
def tw14424804004570158677:=()
def tw11474230027312182439:=()
def tw7671611146801434117:=()
def tw14191940382261357403:=()
def tw12279851014744364118:=()
def tw17204714623143622783:=()
def tw3228047193349208875:=()
def tw13126388440587207265:=()
def tw391205553662994410:=()
def tw12427545717266658485:=()
def tw3838413196491136476:=()
def tw3761240270990086485:=()
def tw13478353538199703625:=()
def tw17369101345641063423:=()
def tw14173360034369891064:=()
def tw8946567907282016932:=()
def tw12939660139949706049:=()
def tw16596600956254647119:=()
def tw8271291533344797019:=()
def tw10324579293966544667:=()
def tw11173061477496200048:=()
def tw2629029565633539466:=()
def tw7734241539837746630:=()
def tw9315706855790828344:=()
def tw382254667050279614:=()
def tw17844991682687460536:=()
def tw3643668850001300660:=()
def tw9661214482810248875:=()
def tw13253933469450179042:=()
def tw17141179064113142951:=()
def tw855594874209922191:=()
def tw8944775334289969082:=()
def tw4495927229855979620:=()
def tw5223517848169580289:=()
def tw14247021075480469373:=()
def tw5993061305180094224:=()
def tw17896525376170667906:=()
def tw17696601092743911879:=()
def tw13442074256167579337:=()
def tw12089686434700946123:=()
def tw8950615464755385527:=()
def tw12826218561218196476:=()
def tw823961572747261318:=()
def tw13252901851313076824:=()
def tw10454594271166060156:=()
def tw10800698489224637567:=()
def tw12108934852325625693:=()
def tw10504162888868932216:=()
def tw4916167438100429545:=()
def tw17329046175438263790:=()
def tw629296687953918849:=()
def tw956022197119357461:=()
def tw9667344463552924136:=()
def tw9649771629493784940:=()
def tw9150695158089890484:=()
def tw4618572697294740742:=()
def tw7466099017335204679:=()
def tw13891256077068801713:=()
def tw8408743787534990755:=()
def tw17173757958622375713:=()
def tw16108510588759120240:=()
def tw4517120983857119366:=()
def tw14205969487647610846:=()
def tw4688912607707014698:=()
def tw14588091576311524132:=()
def tw2405235827870485564:=()
def tw12367025088672822132:=()
def tw2604821071043195069:=()
def tw8058801360676288969:=()
def tw4682056302932591508:=()
def tw10024047475574745645:=()
def tw5702129440045592851:=()
def tw14662822627463675213:=()
def tw10340530204277134063:=()
def tw5553783546918579815:=()
def tw13448823819434582939:=()
def tw15657033791005810192:=()
def tw14719288815558652720:=()
def tw1904261964667210935:=()
def tw17921293059165926951:=()
def tw3923730909192629242:=()
def tw7880017934777087569:=()
def tw11245715415188672793:=()
def tw3317335859843894532:=()
def tw1840073413413310890:=()
def tw1271603419553945701:=()
def tw15757528400803580794:=()
def tw10665486096067297737:=()
def tw10051577676764665077:=()
def tw8076944332234141856:=()
def tw12943427989928456476:=()
def tw5310285590564415000:=()
def tw1575835309783369022:=()
def tw11851222612137882097:=()
def tw11454142317391988334:=()
def tw12318485084765392347:=()
def tw1773324683201052527:=()
def tw5807763526724030796:=()
def tw12908287681535246436:=()
def tw10266258568754194398:=()
def tw5485004440680357430:=()
def tw14346102542973068395:=()
def tw17934251125085149206:=()
def tw16530021223724950414:=()
def tw5618167324091511975:=()
def tw4125928996969735504:=()
def tw865684816808715036:=()
def tw10795989726104581194:=()
def tw14429880873026216862:=()
def tw2124410466639542869:=()
def tw10228502307951965503:=()
def tw14089432038885217168:=()
def tw4441887863528300467:=()
def tw16832689343810161030:=()
def tw1924796110168369185:=()
def tw16086574403877978213:=()
def tw1271073288238415800:=()
def tw9070859152929434445:=()
def tw3942213278666325045:=()
def tw13552530690677912663:=()
def tw3017941577387119454:=()
def tw7543249871857601740:=()
def tw10088562084997816189:=()
def tw10771300635487320057:=()
def tw14795954565311587063:=()
def tw18079834227600116114:=()
def tw13448004128403742387:=()
def tw17729606265712425518:=()
def tw14709080733294401838:=()
def tw9646531474680828879:=()
def tw14790845821896171268:=()
def tw751015241611217896:=()
def tw902309068923035620:=()
def tw13112745798269634024:=()
def tw13246283093910410748:=()
def tw5201571855291579036:=()
def tw7314277557000002497:=()
def tw17765414862612619129:=()
def tw17494953603531633739:=()
def tw12098353124891440184:=()
def tw8975049528315587476:=()
def tw10883696742914530922:=()
def tw12669622750466664665:=()
def tw14611832792888983644:=()
def tw6510674604877197648:=()
def tw11276992248317891111:=()
def tw3758215731355195958:=()
def tw16768538570744203161:=()
def tw3413065244386935255:=()
def tw5661336382133270242:=()
def tw1254334736970297807:=()
def tw2516770903344248207:=()
def tw12089655212124028119:=()
def tw13596871684569593493:=()
def tw12822034614489370608:=()
def tw342307063069660220:=()
def tw13988313893328625631:=()
def tw3912625196241010245:=()
def tw1135900491934825070:=()
def tw9759753685254990775:=()
def tw17883921282160794083:=()
def tw1283500177449123086:=()
def tw15121110324888133901:=()
def tw17780846650473847766:=()
def tw11004582239403488211:=()
def tw15215742523558200428:=()
def tw18088986922609955387:=()
def tw12536947919489858560:=()
def tw10834263183100004749:=()
def tw14469604956473654135:=()
def tw10695473620281460184:=()
def tw11748868220153934455:=()
def tw8352675818077271335:=()
def tw14335121735193115555:=()
def tw5557774353855330226:=()
def tw7721691737837439918:=()
def tw7001875974678753754:=()
def tw15683540939703062128:=()
def tw4404048793835098186:=()
def tw6977562858689746371:=()
def tw55670161659576210:=()
def tw15086347609310965612:=()
def tw2038746993702660041:=()
def tw4190512048062266358:=()
def tw13802795437477305644:=()
def tw6808411969950982380:=()
def tw6330629885641386574:=()
def tw3320980171027066534:=()
def tw9851767050214808568:=()
def tw3615450934585844044:=()
def tw18062035864185260081:=()
def tw8841462308557956362:=()
def tw1651057767560902155:=()
def tw9280247770137916363:=()
def tw9426891842615782962:=()
def tw8745449351477669845:=()
def tw2896773430674991554:=()
def tw11500440543938943956:=()
def tw10072923859168130993:=()
def tw16448025304906251529:=()
def tw16311591857609995172:=()
def tw5126477261311314493:=()
def tw15154612330198261225:=()
def tw7478154443690579376:=()
def tw5364143994171325075:=()
def tw15968075645293048259:=()
def tw1339533281649395667:=()
def tw16717229673481108828:=()
def tw564630868074301535:=()
def tw11627677895154067718:=()
def tw4951910756955963386:=()
def tw6884180102824233953:=()
def tw14562754435770412203:=()
def tw15794854601151846441:=()
def tw9847409146067717120:=()
def tw12311128609172675474:=()
def tw13114218352518171676:=()
def tw3246559681335573719:=()
def tw17669463637382028361:=()
def tw7444686090419661486:=()
def tw3094055076395245907:=()
def tw8774131869780080289:=()
def tw14902344457775791747:=()
def tw9958377219453860753:=()
def tw8677333485251851492:=()
def tw14107482479124153310:=()
def tw7462608765090859092:=()
def tw8619931362425160873:=()
def tw4891069343382270921:=()
def tw2528550441589276745:=()
def tw7458065912320217740:=()
def tw8048493224253570107:=()
def tw14589862239882361296:=()
def tw5431148146400246936:=()
def tw14349671622622884842:=()
def tw2229079349317488608:=()
def tw11621033488693770317:=()
def tw15285182863232608814:=()
def tw1117916957133492549:=()
def tw6093299592484530729:=()
def tw17434948072072507405:=()
def tw16789876436439844680:=()
def tw16857323793451059579:=()
def tw6644930627701340437:=()
def tw5160334963568509772:=()
def tw5134499235817106229:=()
def tw13872987301011599786:=()
def tw10734268335879793348:=()
def tw17583901436034006385:=()
def tw13759105100918374810:=()
def tw12105274422660226018:=()
def tw2035414204099655768:=()
def tw6753392272559255485:=()
def tw766060102042093953:=()
def tw1722637873986924925:=()
def tw13779782030284489549:=()
def tw10036957331135072312:=()
def tw10522116312161139411:=()
def tw12148256265441048705:=()
def tw6596790660310304517:=()
def tw10396970366216263682:=()
def tw4800213908269825178:=()
def tw9159192479617110613:=()
def tw12189417909447437591:=()
def tw13521949642793217730:=()
def tw9648263192274345020:=()
def tw16188251944364322463:=()
def tw9748291422653150526:=()
def tw13911903183433436470:=()
def tw11628217405902645859:=()
def tw11551666676853283710:=()
def tw12613741013716649021:=()
def tw9166845642123801212:=()
def tw17153339266282422136:=()
def tw8603173057951293415:=()
def tw7221722699343780305:=()
def tw1050590063550219591:=()
def tw4947459346129432133:=()
def tw4760878262307516068:=()
def tw1291783522454549143:=()
def tw17583665207781404324:=()
def tw5753770277478671187:=()
def tw6449798910865825485:=()
def tw368548590725266288:=()
def tw17018777167613717593:=()
def tw9534042971619031226:=()
def tw8440303748979360039:=()
def tw13014680681371802721:=()
def tw9758724276103919876:=()
def tw9277830248997181970:=()
def tw3410906121829646489:=()
def tw7185150073603722835:=()
def tw11904808974257870078:=()
def tw4043992024308524565:=()
def tw458730470448766168:=()
def tw4219624700606682745:=()
def tw6874874562393243253:=()
def tw5735269247072828653:=()
def tw12167444075391739452:=()
def tw2340731251176536844:=()
def tw15180014552191746561:=()
def tw5967104902601881577:=()
def tw14354962573161219543:=()
def tw9747038074674913641:=()
def tw9681985532560722822:=()
def tw9402401442226858531:=()
def tw14657721878832512009:=()
def tw11689694157775943527:=()
def tw6276985500624537100:=()
def tw8566637088625374323:=()
def tw2069881167687178318:=()
def tw16848665028300358319:=()
def tw18065224382602998706:=()
def tw7321175877387010099:=()
def tw1393642632446609277:=()
def tw12485167778893340317:=()
def tw17212150176052126755:=()
def tw4109422257100365632:=()
def tw2214932969690968095:=()
def tw17907359615856983945:=()
def tw4500646654956084637:=()
def tw2310389841145939255:=()
def tw9811965968209213214:=()
def tw4211917966983666063:=()
def tw15321212524398496264:=()
def tw18054897240796308164:=()
def tw3731223633670687198:=()
def tw17028184343497826494:=()
def tw8747908429302881758:=()
def tw8479134598099429389:=()
def tw866231857802449612:=()
def tw10610886396493837173:=()
def tw11027881589749028912:=()
def tw14704943496688413269:=()
def tw6300661341853203453:=()
def tw13957427955488073139:=()
def tw14671005338334841613:=()
def tw15441089370538513343:=()
def tw14928957397435872314:=()
def tw1927772746960912203:=()
def tw5285655293697082555:=()
def tw2130130065368739505:=()
def tw17857153102791969770:=()
def tw6153438888077197109:=()
def tw3786090477438510899:=()
def tw17836421466105187558:=()
def tw7372376355318026100:=()
def tw8109992833101661073:=()
def tw6128960569507021175:=()
def tw4805549198421704378:=()
def tw5481479288625378346:=()
def tw6615476067248608345:=()
def tw3135999779489699983:=()
def tw12520423361637495699:=()
def tw4789257394488837278:=()
def tw6200352075370590597:=()
def tw13271190595970306044:=()
def tw16392126853624182579:=()
def tw3367393784623036648:=()
def tw15683552841842186541:=()
def tw14646264209891527647:=()
def tw9258063514422038123:=()
def tw3007708930164672586:=()
def tw1139007042024025648:=()
def tw9190295458075429942:=()
def tw302112218247943619:=()
def tw11412226157804383590:=()
def tw18142949849721066704:=()
def tw10301476650339386252:=()
def tw15382165113647845549:=()
def tw16603995824886040206:=()
def tw9083129825558080469:=()
end PySem.W.Fast
open PySem PySem.W PyProof.Rows
set_option maxRecDepth 100000 in
set_option maxHeartbeats 0 in
theorem PySem.Challenge.cw_waysum_k13_whole_a_place_taken_out_holds : PySem.Challenge.rw_waysum_k13_whole_a_place_taken_out.Holds := by
  w_on; o_law; k_head; (case hw => w_witness2)
  k_fill
  refine K13.walk (l := PySem.Challenge.rw_waysum_k13_whole_a_place_taken_out) rfl rfl ?him (fun w h Y => PySem.W.kIn_of Y) ?F
  case him => first | rfl | decide +kernel
  case F =>
    intro w mg fa h KX G hmg
    refine' K13.all_mk rfl KX G hmg ?g_SumError ?g_NoNet ?g_NoWorth ?g_NoPlace ?g_NoSum ?g_Kind ?g_Fewest ?g_Widest ?g_Counted ?g_Likeliest ?g_Chances ?g_Musts ?g_Rests ?g_Net ?g_WIDEST ?g_MOST_RESTS ?g_MOST_PLACES ?g_MOST_ROADS ?z_isinstance ?z_len ?z_int ?z_bool ?z_tuple ?z_list ?z_ValueError ?z_range ?z_min ?z_max ?z_enumerate ?xo_NoNet ?xa_NoNet ?xb_NoNet ?xc_NoNet ?xd_NoNet ?xe_NoNet ?xf_NoNet ?xo_NoPlace ?xa_NoPlace ?xb_NoPlace ?xc_NoPlace ?xd_NoPlace ?xe_NoPlace ?xf_NoPlace ?xo_NoSum ?xa_NoSum ?xb_NoSum ?xc_NoSum ?xd_NoSum ?xe_NoSum ?xf_NoSum ?xm_NoSum_NoSum ?xo_NoWorth ?xa_NoWorth ?xb_NoWorth ?xc_NoWorth ?xd_NoWorth ?xe_NoWorth ?xf_NoWorth ?mk_Fewest ?in_Fewest ?kp_Fewest ?mk_Widest ?in_Widest ?kp_Widest ?mk_Counted ?in_Counted ?kp_Counted ?mk_Likeliest ?in_Likeliest ?kp_Likeliest ?mk_Chances ?in_Chances ?kp_Chances ?mk_Musts ?in_Musts ?kp_Musts ?mk_Rests ?kp_Rests ?na_Rests_m ?mk_Net ?kp_Net ?na_Net_own_kind ?na_Net_how_many ?na_Net_own_roads ?pg_Net ?hd_Net ?po_Net ?sa_Net ?pg_Fewest ?hd_Fewest ?po_Fewest ?sa_Fewest ?pg_Widest ?hd_Widest ?po_Widest ?sa_Widest ?pg_Counted ?hd_Counted ?po_Counted ?sa_Counted ?pg_Likeliest ?hd_Likeliest ?po_Likeliest ?sa_Likeliest ?pg_Chances ?hd_Chances ?po_Chances ?sa_Chances ?pg_Musts ?hd_Musts ?po_Musts ?sa_Musts ?pg_Rests ?hd_Rests ?po_Rests ?sa_Rests ?a_Ddivisor ?l_Ddivisor ?c_Ddivisor_ ?k_Ddivisor ?a_MRests_init ?i_MRests_init ?l_MRests_init ?c_MRests_init_ ?k_MRests_init ?a_Dlaw_cell_at ?l_Dlaw_cell_at ?c_Dlaw_cell_at_ ?k_Dlaw_cell_at ?a_Dlaw_kind ?l_Dlaw_kind ?c_Dlaw_kind_ ?k_Dlaw_kind ?a_Dlaw_share ?l_Dlaw_share ?c_Dlaw_share_ ?k_Dlaw_share ?a_Dlaw_none ?l_Dlaw_none ?c_Dlaw_none_ ?k_Dlaw_none ?a_Dlaw_rest ?l_Dlaw_rest ?c_Dlaw_rest_ ?k_Dlaw_rest ?a_Dlaw_worth ?l_Dlaw_worth ?c_Dlaw_worth_ ?k_Dlaw_worth ?a_Dlowest ?l_Dlowest ?c_Dlowest_ ?k_Dlowest ?a_Dadded ?l_Dadded ?c_Dadded_ ?k_Dadded ?a_Dmultiplied ?l_Dmultiplied ?c_Dmultiplied_ ?k_Dmultiplied ?a_Dgreater ?l_Dgreater ?c_Dgreater_ ?k_Dgreater ?a_Dlacking_to_one ?l_Dlacking_to_one ?c_Dlacking_to_one_ ?k_Dlacking_to_one ?a_Draised ?l_Draised ?c_Draised_ ?k_Draised ?a_MFewest_none ?i_MFewest_none ?l_MFewest_none ?c_MFewest_none_ ?k_MFewest_none ?a_MWidest_none ?i_MWidest_none ?l_MWidest_none ?c_MWidest_none_ ?k_MWidest_none ?a_MCounted_none ?i_MCounted_none ?l_MCounted_none ?c_MCounted_none_ ?k_MCounted_none ?a_MLikeliest_none ?i_MLikeliest_none ?l_MLikeliest_none ?c_MLikeliest_none_ ?k_MLikeliest_none ?a_MChances_none ?i_MChances_none ?l_MChances_none ?c_MChances_none_ ?k_MChances_none ?a_MMusts_none ?i_MMusts_none ?l_MMusts_none ?c_MMusts_none_ ?k_MMusts_none ?a_MRests_none ?i_MRests_none ?l_MRests_none ?c_MRests_none_ ?k_MRests_none ?a_MFewest_rest ?i_MFewest_rest ?l_MFewest_rest ?c_MFewest_rest_ ?k_MFewest_rest ?a_MWidest_rest ?i_MWidest_rest ?l_MWidest_rest ?c_MWidest_rest_ ?k_MWidest_rest ?a_MCounted_rest ?i_MCounted_rest ?l_MCounted_rest ?c_MCounted_rest_ ?k_MCounted_rest ?a_MLikeliest_rest ?i_MLikeliest_rest ?l_MLikeliest_rest ?c_MLikeliest_rest_ ?k_MLikeliest_rest ?a_MChances_rest ?i_MChances_rest ?l_MChances_rest ?c_MChances_rest_ ?k_MChances_rest ?a_MMusts_rest ?i_MMusts_rest ?l_MMusts_rest ?c_MMusts_rest_ ?k_MMusts_rest ?a_MRests_rest ?i_MRests_rest ?l_MRests_rest ?c_MRests_rest_ ?k_MRests_rest ?a_MFewest_together ?i_MFewest_together ?l_MFewest_together ?c_MFewest_together_ ?k_MFewest_together ?a_MWidest_together ?i_MWidest_together ?l_MWidest_together ?c_MWidest_together_ ?k_MWidest_together ?a_MCounted_together ?i_MCounted_together ?l_MCounted_together ?c_MCounted_together_ ?k_MCounted_together ?a_MLikeliest_together ?i_MLikeliest_together ?l_MLikeliest_together ?c_MLikeliest_together_ ?k_MLikeliest_together ?a_MChances_together ?i_MChances_together ?l_MChances_together ?c_MChances_together_ ?k_MChances_together ?a_MMusts_together ?i_MMusts_together ?l_MMusts_together ?c_MMusts_together_ ?k_MMusts_together ?a_MRests_together ?i_MRests_together ?l_MRests_together ?c_MRests_together_ ?k_MRests_together ?a_MFewest_behind ?i_MFewest_behind ?l_MFewest_behind ?c_MFewest_behind_ ?k_MFewest_behind ?a_MWidest_behind ?i_MWidest_behind ?l_MWidest_behind ?c_MWidest_behind_ ?k_MWidest_behind ?a_MCounted_behind ?i_MCounted_behind ?l_MCounted_behind ?c_MCounted_behind_ ?k_MCounted_behind ?a_MLikeliest_behind ?i_MLikeliest_behind ?l_MLikeliest_behind ?c_MLikeliest_behind_ ?k_MLikeliest_behind ?a_MChances_behind ?i_MChances_behind ?l_MChances_behind ?c_MChances_behind_ ?k_MChances_behind ?a_MMusts_behind ?i_MMusts_behind ?l_MMusts_behind ?c_MMusts_behind_ ?k_MMusts_behind ?a_MRests_behind ?i_MRests_behind ?l_MRests_behind ?c_MRests_behind_ ?k_MRests_behind ?a_MFewest_rounds ?i_MFewest_rounds ?l_MFewest_rounds ?c_MFewest_rounds_ ?k_MFewest_rounds ?a_MWidest_rounds ?i_MWidest_rounds ?l_MWidest_rounds ?c_MWidest_rounds_ ?k_MWidest_rounds ?a_MCounted_rounds ?i_MCounted_rounds ?l_MCounted_rounds ?c_MCounted_rounds_ ?k_MCounted_rounds ?a_MLikeliest_rounds ?i_MLikeliest_rounds ?l_MLikeliest_rounds ?c_MLikeliest_rounds_ ?k_MLikeliest_rounds ?a_MChances_rounds ?i_MChances_rounds ?l_MChances_rounds ?c_MChances_rounds_ ?k_MChances_rounds ?a_MMusts_rounds ?i_MMusts_rounds ?l_MMusts_rounds ?c_MMusts_rounds_ ?k_MMusts_rounds ?a_MRests_rounds ?i_MRests_rounds ?l_MRests_rounds ?c_MRests_rounds_ ?k_MRests_rounds ?a_Dis_from ?l_Dis_from ?c_Dis_from_ ?k_Dis_from ?a_Dis_share ?l_Dis_share ?c_Dis_share_ ?k_Dis_share ?a_MFewest_is_worth ?i_MFewest_is_worth ?l_MFewest_is_worth ?c_MFewest_is_worth_ ?k_MFewest_is_worth ?a_MWidest_is_worth ?i_MWidest_is_worth ?l_MWidest_is_worth ?c_MWidest_is_worth_ ?k_MWidest_is_worth ?a_MCounted_is_worth ?i_MCounted_is_worth ?l_MCounted_is_worth ?c_MCounted_is_worth_ ?k_MCounted_is_worth ?a_MLikeliest_is_worth ?i_MLikeliest_is_worth ?l_MLikeliest_is_worth ?c_MLikeliest_is_worth_ ?k_MLikeliest_is_worth ?a_MChances_is_worth ?i_MChances_is_worth ?l_MChances_is_worth ?c_MChances_is_worth_ ?k_MChances_is_worth ?a_MMusts_is_worth ?i_MMusts_is_worth ?l_MMusts_is_worth ?c_MMusts_is_worth_ ?k_MMusts_is_worth ?a_MRests_is_worth ?i_MRests_is_worth ?l_MRests_is_worth ?c_MRests_is_worth_ ?k_MRests_is_worth ?a_Dcheck_numbers ?l_Dcheck_numbers ?c_Dcheck_numbers_ ?k_Dcheck_numbers ?a_Dcheck_ends ?l_Dcheck_ends ?c_Dcheck_ends_ ?k_Dcheck_ends ?a_MFewest_may_start_together ?i_MFewest_may_start_together ?l_MFewest_may_start_together ?c_MFewest_may_start_together_ ?k_MFewest_may_start_together ?a_MWidest_may_start_together ?i_MWidest_may_start_together ?l_MWidest_may_start_together ?c_MWidest_may_start_together_ ?k_MWidest_may_start_together ?a_MCounted_may_start_together ?i_MCounted_may_start_together ?l_MCounted_may_start_together ?c_MCounted_may_start_together_ ?k_MCounted_may_start_together ?a_MLikeliest_may_start_together ?i_MLikeliest_may_start_together ?l_MLikeliest_may_start_together ?c_MLikeliest_may_start_together_ ?k_MLikeliest_may_start_together ?a_MChances_may_start_together ?i_MChances_may_start_together ?l_MChances_may_start_together ?c_MChances_may_start_together_ ?k_MChances_may_start_together ?a_MMusts_may_start_together ?i_MMusts_may_start_together ?l_MMusts_may_start_together ?c_MMusts_may_start_together_ ?k_MMusts_may_start_together ?a_MRests_may_start_together ?i_MRests_may_start_together ?l_MRests_may_start_together ?c_MRests_may_start_together_ ?k_MRests_may_start_together ?a_Dcheck_starts ?l_Dcheck_starts ?c_Dcheck_starts_ ?k_Dcheck_starts ?a_Dcheck_worths ?l_Dcheck_worths ?c_Dcheck_worths_ ?k_Dcheck_worths ?a_MNet_init ?i_MNet_init ?l_MNet_init ?c_MNet_init_ ?k_MNet_init ?a_MNet_kind ?i_MNet_kind ?l_MNet_kind ?c_MNet_kind_ ?k_MNet_kind ?a_MNet_places ?i_MNet_places ?l_MNet_places ?c_MNet_places_ ?k_MNet_places ?a_MNet_roads ?i_MNet_roads ?l_MNet_roads ?c_MNet_roads_ ?k_MNet_roads ?a_Dlaw_tog ?l_Dlaw_tog ?c_Dlaw_tog_ ?k_Dlaw_tog ?a_Dlaw_beh ?l_Dlaw_beh ?c_Dlaw_beh_ ?k_Dlaw_beh ?a_Dlaw_whole ?l_Dlaw_whole ?c_Dlaw_whole_ ?k_Dlaw_whole ?a_Dlaw_is ?l_Dlaw_is ?c_Dlaw_is_ ?k_Dlaw_is ?a_Dlaw_thinned ?l_Dlaw_thinned ?c_Dlaw_thinned_ ?k_Dlaw_thinned ?a_Dlaw_net ?l_Dlaw_net ?c_Dlaw_net_ ?k_Dlaw_net ?a_Dcheck_place ?l_Dcheck_place ?c_Dcheck_place_ ?k_Dcheck_place ?a_Dstraight ?l_Dstraight ?c_Dstraight_ ?k_Dstraight ?a_Dled_through ?l_Dled_through ?c_Dled_through_ ?k_Dled_through ?a_Dtable ?l_Dtable ?c_Dtable_ ?k_Dtable ?a_Dlaw_rounds ?l_Dlaw_rounds ?c_Dlaw_rounds_ ?k_Dlaw_rounds ?a_Dwithout ?l_Dwithout ?c_Dwithout_ ?k_Dwithout ?a_Dlaw_between ?l_Dlaw_between ?c_Dlaw_between_ ?k_Dlaw_between ?a_Dlaw_due ?l_Dlaw_due ?c_Dlaw_due_ ?k_Dlaw_due ?a_Dlaw_same_sums ?l_Dlaw_same_sums ?c_Dlaw_same_sums_ ?k_Dlaw_same_sums ?a_Dlaw ?l_Dlaw ?c_Dlaw_ ?k_Dlaw
    (case g_SumError => k_is)
    (case g_NoNet => k_is)
    (case g_NoWorth => k_is)
    (case g_NoPlace => k_is)
    (case g_NoSum => k_is)
    (case g_Kind => k_is)
    (case g_Fewest => k_is)
    (case g_Widest => k_is)
    (case g_Counted => k_is)
    (case g_Likeliest => k_is)
    (case g_Chances => k_is)
    (case g_Musts => k_is)
    (case g_Rests => k_is)
    (case g_Net => k_is)
    (case g_WIDEST => k_is)
    (case g_MOST_RESTS => k_is)
    (case g_MOST_PLACES => k_is)
    (case g_MOST_ROADS => k_is)
    (case z_isinstance => k_is)
    (case z_len => k_is)
    (case z_int => k_is)
    (case z_bool => k_is)
    (case z_tuple => k_is)
    (case z_list => k_is)
    (case z_ValueError => k_is)
    (case z_range => k_is)
    (case z_min => k_is)
    (case z_max => k_is)
    (case z_enumerate => k_is)
    (case xo_NoNet => k_exc)
    (case xa_NoNet => kernel_rfl)
    (case xb_NoNet => k_is)
    (case xc_NoNet => k_is)
    (case xd_NoNet => k_is)
    (case xe_NoNet => k_is)
    (case xf_NoNet => k_is)
    (case xo_NoPlace => k_exc)
    (case xa_NoPlace => kernel_rfl)
    (case xb_NoPlace => k_is)
    (case xc_NoPlace => k_is)
    (case xd_NoPlace => k_is)
    (case xe_NoPlace => k_is)
    (case xf_NoPlace => k_is)
    (case xo_NoSum => k_exc)
    (case xa_NoSum => kernel_rfl)
    (case xb_NoSum => k_is)
    (case xc_NoSum => k_is)
    (case xd_NoSum => k_is)
    (case xe_NoSum => k_is)
    (case xf_NoSum => k_is)
    (case xm_NoSum_NoSum => kernel_rfl)
    (case xo_NoWorth => k_exc)
    (case xa_NoWorth => kernel_rfl)
    (case xb_NoWorth => k_is)
    (case xc_NoWorth => k_is)
    (case xd_NoWorth => k_is)
    (case xe_NoWorth => k_is)
    (case xf_NoWorth => k_is)
    (case mk_Fewest => k_is)
    (case in_Fewest => k_is)
    (case kp_Fewest => k_is)
    (case mk_Widest => k_is)
    (case in_Widest => k_is)
    (case kp_Widest => k_is)
    (case mk_Counted => k_is)
    (case in_Counted => k_is)
    (case kp_Counted => k_is)
    (case mk_Likeliest => k_is)
    (case in_Likeliest => k_is)
    (case kp_Likeliest => k_is)
    (case mk_Chances => k_is)
    (case in_Chances => k_is)
    (case kp_Chances => k_is)
    (case mk_Musts => k_is)
    (case in_Musts => k_is)
    (case kp_Musts => k_is)
    (case mk_Rests => k_is)
    (case kp_Rests => k_is)
    (case na_Rests_m => k_is)
    (case mk_Net => k_is)
    (case kp_Net => k_is)
    (case na_Net_own_kind => k_is)
    (case na_Net_how_many => k_is)
    (case na_Net_own_roads => k_is)
    (case pg_Net => k_is)
    (case hd_Net => k_is)
    (case po_Net => k_is)
    (case sa_Net => k_is)
    (case pg_Fewest => k_is)
    (case hd_Fewest => k_is)
    (case po_Fewest => k_is)
    (case sa_Fewest => k_is)
    (case pg_Widest => k_is)
    (case hd_Widest => k_is)
    (case po_Widest => k_is)
    (case sa_Widest => k_is)
    (case pg_Counted => k_is)
    (case hd_Counted => k_is)
    (case po_Counted => k_is)
    (case sa_Counted => k_is)
    (case pg_Likeliest => k_is)
    (case hd_Likeliest => k_is)
    (case po_Likeliest => k_is)
    (case sa_Likeliest => k_is)
    (case pg_Chances => k_is)
    (case hd_Chances => k_is)
    (case po_Chances => k_is)
    (case sa_Chances => k_is)
    (case pg_Musts => k_is)
    (case hd_Musts => k_is)
    (case po_Musts => k_is)
    (case sa_Musts => k_is)
    (case pg_Rests => k_is)
    (case hd_Rests => k_is)
    (case po_Rests => k_is)
    (case sa_Rests => k_is)
    (case a_Ddivisor => k_is)
    (case l_Ddivisor => k_is)
    (case c_Ddivisor_ => k_is)
    (case k_Ddivisor => k_is)
    (case a_MRests_init => k_is)
    (case i_MRests_init => k_is)
    (case l_MRests_init => k_is)
    (case c_MRests_init_ => k_is)
    (case k_MRests_init => k_is)
    (case a_Dlaw_cell_at => k_is)
    (case l_Dlaw_cell_at => k_is)
    (case c_Dlaw_cell_at_ => k_is)
    (case k_Dlaw_cell_at => k_is)
    (case a_Dlaw_kind => k_is)
    (case l_Dlaw_kind => k_is)
    (case c_Dlaw_kind_ => k_is)
    (case k_Dlaw_kind => k_is)
    (case a_Dlaw_share => k_is)
    (case l_Dlaw_share => k_is)
    (case c_Dlaw_share_ => k_is)
    (case k_Dlaw_share => k_is)
    (case a_Dlaw_none => k_is)
    (case l_Dlaw_none => k_is)
    (case c_Dlaw_none_ => k_is)
    (case k_Dlaw_none => k_is)
    (case a_Dlaw_rest => k_is)
    (case l_Dlaw_rest => k_is)
    (case c_Dlaw_rest_ => k_is)
    (case k_Dlaw_rest => k_is)
    (case a_Dlaw_worth => k_is)
    (case l_Dlaw_worth => k_is)
    (case c_Dlaw_worth_ => k_is)
    (case k_Dlaw_worth => k_is)
    (case a_Dlowest => k_is)
    (case l_Dlowest => k_is)
    (case c_Dlowest_ => k_is)
    (case k_Dlowest => k_is)
    (case a_Dadded => k_is)
    (case l_Dadded => k_is)
    (case c_Dadded_ => k_is)
    (case k_Dadded => k_is)
    (case a_Dmultiplied => k_is)
    (case l_Dmultiplied => k_is)
    (case c_Dmultiplied_ => k_is)
    (case k_Dmultiplied => k_is)
    (case a_Dgreater => k_is)
    (case l_Dgreater => k_is)
    (case c_Dgreater_ => k_is)
    (case k_Dgreater => k_is)
    (case a_Dlacking_to_one => k_is)
    (case l_Dlacking_to_one => k_is)
    (case c_Dlacking_to_one_ => k_is)
    (case k_Dlacking_to_one => k_is)
    (case a_Draised => k_is)
    (case l_Draised => k_is)
    (case c_Draised_ => k_is)
    (case k_Draised => k_is)
    (case a_MFewest_none => k_is)
    (case i_MFewest_none => k_is)
    (case l_MFewest_none => k_is)
    (case c_MFewest_none_ => k_is)
    (case k_MFewest_none => k_is)
    (case a_MWidest_none => k_is)
    (case i_MWidest_none => k_is)
    (case l_MWidest_none => k_is)
    (case c_MWidest_none_ => k_is)
    (case k_MWidest_none => k_is)
    (case a_MCounted_none => k_is)
    (case i_MCounted_none => k_is)
    (case l_MCounted_none => k_is)
    (case c_MCounted_none_ => k_is)
    (case k_MCounted_none => k_is)
    (case a_MLikeliest_none => k_is)
    (case i_MLikeliest_none => k_is)
    (case l_MLikeliest_none => k_is)
    (case c_MLikeliest_none_ => k_is)
    (case k_MLikeliest_none => k_is)
    (case a_MChances_none => k_is)
    (case i_MChances_none => k_is)
    (case l_MChances_none => k_is)
    (case c_MChances_none_ => k_is)
    (case k_MChances_none => k_is)
    (case a_MMusts_none => k_is)
    (case i_MMusts_none => k_is)
    (case l_MMusts_none => k_is)
    (case c_MMusts_none_ => k_is)
    (case k_MMusts_none => k_is)
    (case a_MRests_none => k_is)
    (case i_MRests_none => k_is)
    (case l_MRests_none => k_is)
    (case c_MRests_none_ => k_is)
    (case k_MRests_none => k_is)
    (case a_MFewest_rest => k_is)
    (case i_MFewest_rest => k_is)
    (case l_MFewest_rest => k_is)
    (case c_MFewest_rest_ => k_is)
    (case k_MFewest_rest => k_is)
    (case a_MWidest_rest => k_is)
    (case i_MWidest_rest => k_is)
    (case l_MWidest_rest => k_is)
    (case c_MWidest_rest_ => k_is)
    (case k_MWidest_rest => k_is)
    (case a_MCounted_rest => k_is)
    (case i_MCounted_rest => k_is)
    (case l_MCounted_rest => k_is)
    (case c_MCounted_rest_ => k_is)
    (case k_MCounted_rest => k_is)
    (case a_MLikeliest_rest => k_is)
    (case i_MLikeliest_rest => k_is)
    (case l_MLikeliest_rest => k_is)
    (case c_MLikeliest_rest_ => k_is)
    (case k_MLikeliest_rest => k_is)
    (case a_MChances_rest => k_is)
    (case i_MChances_rest => k_is)
    (case l_MChances_rest => k_is)
    (case c_MChances_rest_ => k_is)
    (case k_MChances_rest => k_is)
    (case a_MMusts_rest => k_is)
    (case i_MMusts_rest => k_is)
    (case l_MMusts_rest => k_is)
    (case c_MMusts_rest_ => k_is)
    (case k_MMusts_rest => k_is)
    (case a_MRests_rest => k_is)
    (case i_MRests_rest => k_is)
    (case l_MRests_rest => k_is)
    (case c_MRests_rest_ => k_is)
    (case k_MRests_rest => k_is)
    (case a_MFewest_together => k_is)
    (case i_MFewest_together => k_is)
    (case l_MFewest_together => k_is)
    (case c_MFewest_together_ => k_is)
    (case k_MFewest_together => k_is)
    (case a_MWidest_together => k_is)
    (case i_MWidest_together => k_is)
    (case l_MWidest_together => k_is)
    (case c_MWidest_together_ => k_is)
    (case k_MWidest_together => k_is)
    (case a_MCounted_together => k_is)
    (case i_MCounted_together => k_is)
    (case l_MCounted_together => k_is)
    (case c_MCounted_together_ => k_is)
    (case k_MCounted_together => k_is)
    (case a_MLikeliest_together => k_is)
    (case i_MLikeliest_together => k_is)
    (case l_MLikeliest_together => k_is)
    (case c_MLikeliest_together_ => k_is)
    (case k_MLikeliest_together => k_is)
    (case a_MChances_together => k_is)
    (case i_MChances_together => k_is)
    (case l_MChances_together => k_is)
    (case c_MChances_together_ => k_is)
    (case k_MChances_together => k_is)
    (case a_MMusts_together => k_is)
    (case i_MMusts_together => k_is)
    (case l_MMusts_together => k_is)
    (case c_MMusts_together_ => k_is)
    (case k_MMusts_together => k_is)
    (case a_MRests_together => k_is)
    (case i_MRests_together => k_is)
    (case l_MRests_together => k_is)
    (case c_MRests_together_ => k_is)
    (case k_MRests_together => k_is)
    (case a_MFewest_behind => k_is)
    (case i_MFewest_behind => k_is)
    (case l_MFewest_behind => k_is)
    (case c_MFewest_behind_ => k_is)
    (case k_MFewest_behind => k_is)
    (case a_MWidest_behind => k_is)
    (case i_MWidest_behind => k_is)
    (case l_MWidest_behind => k_is)
    (case c_MWidest_behind_ => k_is)
    (case k_MWidest_behind => k_is)
    (case a_MCounted_behind => k_is)
    (case i_MCounted_behind => k_is)
    (case l_MCounted_behind => k_is)
    (case c_MCounted_behind_ => k_is)
    (case k_MCounted_behind => k_is)
    (case a_MLikeliest_behind => k_is)
    (case i_MLikeliest_behind => k_is)
    (case l_MLikeliest_behind => k_is)
    (case c_MLikeliest_behind_ => k_is)
    (case k_MLikeliest_behind => k_is)
    (case a_MChances_behind => k_is)
    (case i_MChances_behind => k_is)
    (case l_MChances_behind => k_is)
    (case c_MChances_behind_ => k_is)
    (case k_MChances_behind => k_is)
    (case a_MMusts_behind => k_is)
    (case i_MMusts_behind => k_is)
    (case l_MMusts_behind => k_is)
    (case c_MMusts_behind_ => k_is)
    (case k_MMusts_behind => k_is)
    (case a_MRests_behind => k_is)
    (case i_MRests_behind => k_is)
    (case l_MRests_behind => k_is)
    (case c_MRests_behind_ => k_is)
    (case k_MRests_behind => k_is)
    (case a_MFewest_rounds => k_is)
    (case i_MFewest_rounds => k_is)
    (case l_MFewest_rounds => k_is)
    (case c_MFewest_rounds_ => k_is)
    (case k_MFewest_rounds => k_is)
    (case a_MWidest_rounds => k_is)
    (case i_MWidest_rounds => k_is)
    (case l_MWidest_rounds => k_is)
    (case c_MWidest_rounds_ => k_is)
    (case k_MWidest_rounds => k_is)
    (case a_MCounted_rounds => k_is)
    (case i_MCounted_rounds => k_is)
    (case l_MCounted_rounds => k_is)
    (case c_MCounted_rounds_ => k_is)
    (case k_MCounted_rounds => k_is)
    (case a_MLikeliest_rounds => k_is)
    (case i_MLikeliest_rounds => k_is)
    (case l_MLikeliest_rounds => k_is)
    (case c_MLikeliest_rounds_ => k_is)
    (case k_MLikeliest_rounds => k_is)
    (case a_MChances_rounds => k_is)
    (case i_MChances_rounds => k_is)
    (case l_MChances_rounds => k_is)
    (case c_MChances_rounds_ => k_is)
    (case k_MChances_rounds => k_is)
    (case a_MMusts_rounds => k_is)
    (case i_MMusts_rounds => k_is)
    (case l_MMusts_rounds => k_is)
    (case c_MMusts_rounds_ => k_is)
    (case k_MMusts_rounds => k_is)
    (case a_MRests_rounds => k_is)
    (case i_MRests_rounds => k_is)
    (case l_MRests_rounds => k_is)
    (case c_MRests_rounds_ => k_is)
    (case k_MRests_rounds => k_is)
    (case a_Dis_from => k_is)
    (case l_Dis_from => k_is)
    (case c_Dis_from_ => k_is)
    (case k_Dis_from => k_is)
    (case a_Dis_share => k_is)
    (case l_Dis_share => k_is)
    (case c_Dis_share_ => k_is)
    (case k_Dis_share => k_is)
    (case a_MFewest_is_worth => k_is)
    (case i_MFewest_is_worth => k_is)
    (case l_MFewest_is_worth => k_is)
    (case c_MFewest_is_worth_ => k_is)
    (case k_MFewest_is_worth => k_is)
    (case a_MWidest_is_worth => k_is)
    (case i_MWidest_is_worth => k_is)
    (case l_MWidest_is_worth => k_is)
    (case c_MWidest_is_worth_ => k_is)
    (case k_MWidest_is_worth => k_is)
    (case a_MCounted_is_worth => k_is)
    (case i_MCounted_is_worth => k_is)
    (case l_MCounted_is_worth => k_is)
    (case c_MCounted_is_worth_ => k_is)
    (case k_MCounted_is_worth => k_is)
    (case a_MLikeliest_is_worth => k_is)
    (case i_MLikeliest_is_worth => k_is)
    (case l_MLikeliest_is_worth => k_is)
    (case c_MLikeliest_is_worth_ => k_is)
    (case k_MLikeliest_is_worth => k_is)
    (case a_MChances_is_worth => k_is)
    (case i_MChances_is_worth => k_is)
    (case l_MChances_is_worth => k_is)
    (case c_MChances_is_worth_ => k_is)
    (case k_MChances_is_worth => k_is)
    (case a_MMusts_is_worth => k_is)
    (case i_MMusts_is_worth => k_is)
    (case l_MMusts_is_worth => k_is)
    (case c_MMusts_is_worth_ => k_is)
    (case k_MMusts_is_worth => k_is)
    (case a_MRests_is_worth => k_is)
    (case i_MRests_is_worth => k_is)
    (case l_MRests_is_worth => k_is)
    (case c_MRests_is_worth_ => k_is)
    (case k_MRests_is_worth => k_is)
    (case a_Dcheck_numbers => k_is)
    (case l_Dcheck_numbers => k_is)
    (case c_Dcheck_numbers_ => k_is)
    (case k_Dcheck_numbers => k_is)
    (case a_Dcheck_ends => k_is)
    (case l_Dcheck_ends => k_is)
    (case c_Dcheck_ends_ => k_is)
    (case k_Dcheck_ends => k_is)
    (case a_MFewest_may_start_together => k_is)
    (case i_MFewest_may_start_together => k_is)
    (case l_MFewest_may_start_together => k_is)
    (case c_MFewest_may_start_together_ => k_is)
    (case k_MFewest_may_start_together => k_is)
    (case a_MWidest_may_start_together => k_is)
    (case i_MWidest_may_start_together => k_is)
    (case l_MWidest_may_start_together => k_is)
    (case c_MWidest_may_start_together_ => k_is)
    (case k_MWidest_may_start_together => k_is)
    (case a_MCounted_may_start_together => k_is)
    (case i_MCounted_may_start_together => k_is)
    (case l_MCounted_may_start_together => k_is)
    (case c_MCounted_may_start_together_ => k_is)
    (case k_MCounted_may_start_together => k_is)
    (case a_MLikeliest_may_start_together => k_is)
    (case i_MLikeliest_may_start_together => k_is)
    (case l_MLikeliest_may_start_together => k_is)
    (case c_MLikeliest_may_start_together_ => k_is)
    (case k_MLikeliest_may_start_together => k_is)
    (case a_MChances_may_start_together => k_is)
    (case i_MChances_may_start_together => k_is)
    (case l_MChances_may_start_together => k_is)
    (case c_MChances_may_start_together_ => k_is)
    (case k_MChances_may_start_together => k_is)
    (case a_MMusts_may_start_together => k_is)
    (case i_MMusts_may_start_together => k_is)
    (case l_MMusts_may_start_together => k_is)
    (case c_MMusts_may_start_together_ => k_is)
    (case k_MMusts_may_start_together => k_is)
    (case a_MRests_may_start_together => k_is)
    (case i_MRests_may_start_together => k_is)
    (case l_MRests_may_start_together => k_is)
    (case c_MRests_may_start_together_ => k_is)
    (case k_MRests_may_start_together => k_is)
    (case a_Dcheck_starts => k_is)
    (case l_Dcheck_starts => k_is)
    (case c_Dcheck_starts_ => k_is)
    (case k_Dcheck_starts => k_is)
    (case a_Dcheck_worths => k_is)
    (case l_Dcheck_worths => k_is)
    (case c_Dcheck_worths_ => k_is)
    (case k_Dcheck_worths => k_is)
    (case a_MNet_init => k_is)
    (case i_MNet_init => k_is)
    (case l_MNet_init => k_is)
    (case c_MNet_init_ => k_is)
    (case k_MNet_init => k_is)
    (case a_MNet_kind => k_is)
    (case i_MNet_kind => k_is)
    (case l_MNet_kind => k_is)
    (case c_MNet_kind_ => k_is)
    (case k_MNet_kind => k_is)
    (case a_MNet_places => k_is)
    (case i_MNet_places => k_is)
    (case l_MNet_places => k_is)
    (case c_MNet_places_ => k_is)
    (case k_MNet_places => k_is)
    (case a_MNet_roads => k_is)
    (case i_MNet_roads => k_is)
    (case l_MNet_roads => k_is)
    (case c_MNet_roads_ => k_is)
    (case k_MNet_roads => k_is)
    (case a_Dlaw_tog => k_is)
    (case l_Dlaw_tog => k_is)
    (case c_Dlaw_tog_ => k_is)
    (case k_Dlaw_tog => k_is)
    (case a_Dlaw_beh => k_is)
    (case l_Dlaw_beh => k_is)
    (case c_Dlaw_beh_ => k_is)
    (case k_Dlaw_beh => k_is)
    (case a_Dlaw_whole => k_is)
    (case l_Dlaw_whole => k_is)
    (case c_Dlaw_whole_ => k_is)
    (case k_Dlaw_whole => k_is)
    (case a_Dlaw_is => k_is)
    (case l_Dlaw_is => k_is)
    (case c_Dlaw_is_ => k_is)
    (case k_Dlaw_is => k_is)
    (case a_Dlaw_thinned => k_is)
    (case l_Dlaw_thinned => k_is)
    (case c_Dlaw_thinned_ => k_is)
    (case k_Dlaw_thinned => k_is)
    (case a_Dlaw_net => k_is)
    (case l_Dlaw_net => k_is)
    (case c_Dlaw_net_ => k_is)
    (case k_Dlaw_net => k_is)
    (case a_Dcheck_place => k_is)
    (case l_Dcheck_place => k_is)
    (case c_Dcheck_place_ => k_is)
    (case k_Dcheck_place => k_is)
    (case a_Dstraight => k_is)
    (case l_Dstraight => k_is)
    (case c_Dstraight_ => k_is)
    (case k_Dstraight => k_is)
    (case a_Dled_through => k_is)
    (case l_Dled_through => k_is)
    (case c_Dled_through_ => k_is)
    (case k_Dled_through => k_is)
    (case a_Dtable => k_is)
    (case l_Dtable => k_is)
    (case c_Dtable_ => k_is)
    (case k_Dtable => k_is)
    (case a_Dlaw_rounds => k_is)
    (case l_Dlaw_rounds => k_is)
    (case c_Dlaw_rounds_ => k_is)
    (case k_Dlaw_rounds => k_is)
    (case a_Dwithout => k_is)
    (case l_Dwithout => k_is)
    (case c_Dwithout_ => k_is)
    (case k_Dwithout => k_is)
    (case a_Dlaw_between => k_is)
    (case l_Dlaw_between => k_is)
    (case c_Dlaw_between_ => k_is)
    (case k_Dlaw_between => k_is)
    (case a_Dlaw_due => k_is)
    (case l_Dlaw_due => k_is)
    (case c_Dlaw_due_ => k_is)
    (case k_Dlaw_due => k_is)
    (case a_Dlaw_same_sums => k_is)
    (case l_Dlaw_same_sums => k_is)
    (case c_Dlaw_same_sums_ => k_is)
    (case k_Dlaw_same_sums => k_is)
    (case a_Dlaw => k_is)
    (case l_Dlaw => k_is)
    (case c_Dlaw_ => k_is)
    (case k_Dlaw => k_is)
#print axioms PySem.Challenge.cw_waysum_k13_whole_a_place_taken_out_holds
