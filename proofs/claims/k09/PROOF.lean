import PyProof.Rows.All
import Wide.All
import OpenK.AllK
import Wide.FinOn
import Lean
import PyProof.EqAt
import PyProof.EqKinds
import PyProof.TupleCall
import PySem.Str
import PyProof.NeKinds
import PyProof.SetKind
import PyProof.DictStraight
import PyProof.Rows.TupIn
import PyProof.CollectIter
import PyProof.FactsAll.set
import PyProof.SetNew
import PyProof.Rows.SortShell
import PyProof.Rows.SetFrom
import KE.KSortAsk
import KE.KSortTup
import PyProof.EnumMake
import PyProof.EnumFor
import PySem.Challenge.RW_tablefolk_k09_whole_what_is_left
set_option Elab.async false
set_option linter.all false
set_option maxRecDepth 100000
namespace L2
open PySem PySem.Spec PyProof.Rows
abbrev Key:=Sum Int Str
def keyIs:Key→Value→Bool
 | .inl k,v=>Value.isInt k v
 | .inr x,v=>Value.isStrOf x v
def keyH (w:World):Key→Int
 | .inl k=>hashInt k
 | .inr x=>hashStr w x
theorem keyIs_shape:∀ {k:Key} {v:Value},keyIs k v=true→(∃ i t,k=Sum.inl i∧v=Value.int i t)∨(∃ x t,k=Sum.inr x∧v=Value.str x t)
 | .inl i,v,h=>by
  obtain ⟨t,e⟩:=Value.isInt_shape (k:=i) (v:=v) h
  exact .inl ⟨i,t,rfl,e⟩
 | .inr x,v,h=>by
  obtain ⟨t,e⟩:=Value.isStrOf_shape (x:=x) (v:=v) h
  exact .inr ⟨x,t,rfl,e⟩
theorem keyIs_int (i:Int) (t:Tok):keyIs (.inl i) (.int i t)=true:=by simp [keyIs,Value.isInt]
theorem keyIs_str (x:Str) (t:Tok):keyIs (.inr x) (.str x t)=true:=by simp [keyIs,Value.isStrOf]
theorem key_ll (a b:Int):decide ((Sum.inl a:Key)=Sum.inl b)=(a == b):=by
 by_cases e:a=b
 ·subst e;simp
 ·have h:¬ (Sum.inl a:Key)=Sum.inl b:=fun q=>e (Sum.inl.inj q)
  rw [decide_eq_false h]
  exact (beq_eq_false_iff_ne.mpr e).symm
theorem key_rr (a b:Str):decide ((Sum.inr a:Key)=Sum.inr b)=decide (a=b):=by
 by_cases e:a=b
 ·subst e;simp
 ·have h:¬ (Sum.inr a:Key)=Sum.inr b:=fun q=>e (Sum.inr.inj q)
  rw [decide_eq_false h,decide_eq_false e]
theorem key_lr (a:Int) (b:Str):decide ((Sum.inl a:Key)=Sum.inr b)=false:=decide_eq_false (fun q=>nomatch q)
theorem key_rl (a:Str) (b:Int):decide ((Sum.inr a:Key)=Sum.inl b)=false:=decide_eq_false (fun q=>nomatch q)
def mixKind (prog:Program) (w:World):PySem.KeyKind prog w Key where
 is:=keyIs
 hash:=keyH w
 inj:=fun v a b ha hb=>by
  rcases keyIs_shape ha with ⟨i,t,rfl,rfl⟩ | ⟨x,t,rfl,rfl⟩
  ·rcases keyIs_shape hb with ⟨j,u,rfl,e⟩ | ⟨y,u,rfl,e⟩
   ·injection e with e1 _;rw [e1]
   ·exact nomatch e
  ·rcases keyIs_shape hb with ⟨j,u,rfl,e⟩ | ⟨y,u,rfl,e⟩
   ·exact nomatch e
   ·injection e with e1 _;rw [e1]
 byValue:=fun k v h=>by
  rcases keyIs_shape h with ⟨i,t,rfl,rfl⟩ | ⟨x,t,rfl,rfl⟩ <;> rfl
 pyHash:=fun hv h=>by
  rcases keyIs_shape hv with ⟨i,t,rfl,rfl⟩ | ⟨x,t,rfl,rfl⟩
  ·exact wpAny_pyHash_int h
  ·exact wpAny_pyHash_str h
 eqBool:=fun hu hv h=>by
  rcases keyIs_shape hu with ⟨i,t,rfl,rfl⟩ | ⟨x,t,rfl,rfl⟩
  ·rcases keyIs_shape hv with ⟨j,u,rfl,rfl⟩ | ⟨y,u,rfl,rfl⟩
   ·rw [key_ll] at h;exact wpAny_eqBool_int h
   ·rw [key_lr] at h;exact SeqAt.EqAt.int_str i t y u _ _ _ _ h
  ·rcases keyIs_shape hv with ⟨j,u,rfl,rfl⟩ | ⟨y,u,rfl,rfl⟩
   ·rw [key_rl] at h;exact SeqAt.EqAt.str_int x t j u _ _ _ _ h
   ·rw [key_rr] at h;exact wpAny_eqBool_str h
 «strs»:=fun k x t v h=>by
  rcases keyIs_shape h with ⟨i,u,rfl,e⟩ | ⟨y,u,rfl,e⟩
  ·exact nomatch e
  ·injection e with e1 _
   subst e1
   cases v <;> rfl
theorem mixKind_int (prog:Program) (w:World) (i:Int) (t:Tok):(mixKind prog w).is (.inl i) (.int i t)=true:=keyIs_int i t
theorem mixKind_str (prog:Program) (w:World) (x:Str) (t:Tok):(mixKind prog w).is (.inr x) (.str x t)=true:=keyIs_str x t
end L2
namespace L2
open PySem PySem.Spec PyProof.Rows
inductive V where
 | non | bl (b:Bool) | int (i:Int) | str (x:Str) | byt (b:Array UInt8) | flt (b:UInt64) | ref (a:Addr) | ty (n:String)
 deriving DecidableEq
def RelV:V→Value→Prop
 | .non,u=>u=Value.none
 | .bl b,u=>u=Value.bool b
 | .int i,u=>∃ t,u=Value.int i t
 | .str x,u=>∃ t,u=Value.str x t
 | .byt b,u=>∃ t,u=Value.bytes b t
 | .flt b,u=>∃ t,u=Value.float b t
 | .ref a,u=>u=Value.ref a
 | .ty n,u=>u=Value.type n
abbrev Vals:List V→List Value→Prop:=Paired RelV
theorem Vals.length {xs:List V} {us:List Value} (r:Vals xs us):xs.length=us.length:=Paired.length r
theorem Vals.get:∀ {xs:List V} {us:List Value} {i:Nat} {x:V},Vals xs us→xs[i]?=some x→∃ u,us[i]?=some u∧RelV x u
 | _,_,_,_,.nil,e=>by simp at e
 | _,_,0,_,.cons r _,e=>by simp at e;subst e;exact ⟨_,rfl,r⟩
 | _,_,i + 1,x,.cons _ t,e=>by
  obtain ⟨u,h1,h2⟩:=Vals.get (i:=i) (x:=x) t (by simpa using e)
  exact ⟨u,by simpa using h1,h2⟩
theorem Vals.set {x:V} {u:Value} (r:RelV x u):∀ {xs:List V} {us:List Value} (i:Nat),Vals xs us→Vals (xs.set i x) (us.set i u)
 | _,_,_,.nil=>.nil
 | _,_,0,.cons _ t=>.cons r t
 | _,_,i + 1,.cons q t=>.cons q (Vals.set r i t)
theorem Vals.append:∀ {xs ys:List V} {us ws:List Value},Vals xs us→Vals ys ws→Vals (xs++ys) (us++ws)
 | _,_,_,_,.nil,s=>s
 | _,_,_,_,.cons r t,s=>.cons r (Vals.append t s)
theorem Vals.take:∀ {xs:List V} {us:List Value} (n:Nat),Vals xs us→Vals (xs.take n) (us.take n)
 | _,_,0,_=>.nil
 | _,_,_ + 1,.nil=>.nil
 | _,_,n + 1,.cons r t=>.cons r (Vals.take n t)
theorem Vals.drop:∀ {xs:List V} {us:List Value} (n:Nat),Vals xs us→Vals (xs.drop n) (us.drop n)
 | _,_,0,r=>r
 | _,_,_ + 1,.nil=>.nil
 | _,_,n + 1,.cons _ t=>Vals.drop n t
def RelO:Option V→Option Value→Prop
 | some v,some u=>RelV v u
 | none,none=>True
 | _,_=>False
def KV {κ:Type}:List (κ × V)→List (κ × Value)→Prop:=Paired fun (p:κ × V) (q:κ × Value)=>p.1=q.1∧RelV p.2 q.2
def kV:Key→V
 | .inl i=>.int i
 | .inr x=>.str x
inductive HO where
 | lst (xs:List V)
 | tup (xs:List V)
 | dK (kvs:List (Key × V)) | dT (kvs:List (List Key × V))
 | set (S:Int→Bool) (n:Nat)
 | ins (C dx:Addr) (fs:List (Str × V))
 | own (x:Addr)
 | xd (fs:List (Str × V))
 | met (f x:Addr)
 | rng (lo hi:Int)
 | frz (o:Obj) (u:HO)
 | tbl (ps:Array Value)
 | ext (φ:Heap→Prop)
abbrev Hp:=Addr→Option HO
def upd (H:Hp) (a:Addr) (o:HO):Hp:=fun b=>if b=a then some o else H b
theorem upd_same {H:Hp} {a:Addr} {o:HO}:upd H a o a=some o:=by unfold upd;rw [if_pos rfl]
theorem upd_ne {H:Hp} {a b:Addr} {o:HO} (h:b≠a):upd H a o b=H b:=by unfold upd;rw [if_neg h]
theorem ne_of {H:Hp} {a b:Addr} {o u:HO} (h:H a=some o) (h':H b=some u) (d:o≠u):a≠b:=by
 intro e;subst e;rw [h] at h';exact d (Option.some.inj h')
theorem ne_of_none {H:Hp} {a b:Addr} {o:HO} (h:H a=some o) (h':H b=none):a≠b:=by
 intro e;subst e;rw [h] at h';cases h'
section
variable (P:Program) (w:World)
def ObjOk (H : Hp) (h : Heap) (a : Addr) : HO → Prop
  | .lst xs => xs.length ≤ sizeLine ∧ ∃ (its : List Value) (n : Nat), Vals xs its ∧ h.get? a = some { cls := .type "list", data := .seq its.toArray n }
  | .tup xs => xs.length ≤ sizeLine ∧ ∃ its : List Value, Vals xs its ∧ IsTup h a its.toArray
  | .dK kvs => kvs.length ≤ sizeLine ∧ (a == sysModules) = false ∧ ∃ vs, KV kvs vs ∧ h.DictOf (mixKind P w) a vs
  | .dT kvs => kvs.length ≤ sizeLine ∧ (a == sysModules) = false ∧ ∃ xs : List (List Key × Addr × Value),
      Paired (fun (p : List Key × V) (q : List Key × Addr × Value) => p.1 = q.1 ∧ H q.2.1 = some (.tup (p.1.map kV)) ∧ RelV p.2 q.2.2) kvs xs ∧
      ∃ o es ep, h.get? a = some o ∧ o.ExactDict ∧ o.data = .dict es ep ∧ es.toList = xs.map (entryOfKey (tupleKind (mixKind P w))) ∧ (xs.map (·.1)).Nodup
  | .set S n => h.SetOf (intKind P w) a S n
  | .ins C dx fs => H dx = some (.own a) ∧ fs.length ≤ 1000 ∧ dx ≠ a ∧ h.get? a = some (PySem.W.instObj C dx) ∧
      ∃ mA, h.Ns1 dx mA ∧ (∀ f, RelO (fs.lookup f) (mA f)) ∧ PySem.Within mA (fs.map (·.1))
  | .own _ => ∃ o, h.get? a = some o
  | .xd fs => ∃ mA, h.Ns1 a mA ∧ ∀ f, RelO (fs.lookup f) (mA f)
  | .rng lo hi => ∃ t u v, h.get? a = some { cls := .type "range", data := .fields #[.int lo t, .int hi u, .int 1 v] }
  | .frz o u => h.get? a = some o ∧ ObjOk H h a u
  | .tbl ps => h.get? a = some { cls := .none, data := .fields ps }
  | .met f x => h.get? a = some (PySem.W.methodObj (.ref f) (.ref x))
  | .ext φ => φ h ∧ (∃ o, h.get? a = some o) ∧ ∀ h1 h2 : Heap, φ h1 → (∀ o, h1.get? a = some o → h2.get? a = some o) → φ h2
def HOk (H:Hp) (h:Heap):Prop:=∀ a o,H a=some o→ObjOk P w H h a o
end
section
variable {P:Program} {w:World} {H H':Hp} {h h':Heap} {a:Addr} {o:HO}
theorem ObjOk.lt (x:ObjOk P w H h a o):a < h.objs.size:=by
 cases o with
 | lst xs=>obtain ⟨_,_,_,_,e⟩:=x;exact Heap.lt_size e
 | tup xs=>obtain ⟨_,_,_,p⟩:=x;exact p.lt
 | dK kvs=>obtain ⟨_,_,_,_,o,_,_,e,_⟩:=x;exact Heap.lt_size e
 | dT kvs=>obtain ⟨_,_,_,_,o,_,_,e,_⟩:=x;exact Heap.lt_size e
 | set S n=>obtain ⟨o,_,_,_,e,_⟩:=x;exact Heap.lt_size e
 | ins C dx fs=>obtain ⟨_,_,_,e,_⟩:=x;exact Heap.lt_size e
 | own y=>obtain ⟨_,e⟩:=x;exact Heap.lt_size e
 | xd fs=>obtain ⟨_,⟨_,_,_,e,_⟩,_⟩:=x;exact Heap.lt_size e
 | rng lo hi=>obtain ⟨_,_,_,e⟩:=x;exact Heap.lt_size e
 | frz ob u=>obtain ⟨e,_⟩:=x;exact Heap.lt_size e
 | tbl ps=>exact Heap.lt_size (show h.get? a=some _ from x)
 | met f y=>exact Heap.lt_size (show h.get? a=some _ from x)
 | ext φ=>obtain ⟨_,⟨_,e⟩,_⟩:=x;exact Heap.lt_size e
theorem Paired.mapP {α β:Type} {F G:α→β→Prop}:∀ {l₁:List α} {l₂:List β},Paired F l₁ l₂→(∀ a b,F a b→G a b)→Paired G l₁ l₂
 | _,_,.nil,_=>.nil
 | _,_,.cons r t,f=>.cons (f _ _ r) (Paired.mapP t f)
theorem ObjOk.stay (x:ObjOk P w H h a o) (k:∀ b u,(b=a∨H b=some (.own a))→h.get? b=some u→h'.get? b=some u)
  (ho:∀ b,H b=some (.own a)→H' b=some (.own a)) (ht:∀ b xs,H b=some (.tup xs)→H' b=some (.tup xs)):ObjOk P w H' h' a o:=by
 induction o with
 | lst xs=>obtain ⟨z,its,n,r,e⟩:=x;exact ⟨z,its,n,r,k _ _ (.inl rfl) e⟩
 | tup xs=>obtain ⟨z,its,r,ob,e,c⟩:=x;exact ⟨z,its,r,ob,k _ _ (.inl rfl) e,c⟩
 | dK kvs=>obtain ⟨z,y,vs,r,ob,es,ep,e,c⟩:=x;exact ⟨z,y,vs,r,ob,es,ep,k _ _ (.inl rfl) e,c⟩
 | dT kvs =>
  obtain ⟨z,y,xs,r,ob,es,ep,e,c⟩:=x
  exact ⟨z,y,xs,Paired.mapP r fun p q z=>⟨z.1,ht _ _ z.2.1,z.2.2⟩,ob,es,ep,k _ _ (.inl rfl) e,c⟩
 | set S n=>obtain ⟨ob,es,ep,t,e,c⟩:=x;exact ⟨ob,es,ep,t,k _ _ (.inl rfl) e,c⟩
 | ins C dx fs =>
  obtain ⟨d,z,ne,e,mA,⟨od,es,ep,e2,c⟩,r⟩:=x
  exact ⟨ho _ d,z,ne,k _ _ (.inl rfl) e,mA,⟨od,es,ep,k _ _ (.inr d) e2,c⟩,r⟩
 | own y=>obtain ⟨ob,e⟩:=x;exact ⟨ob,k _ _ (.inl rfl) e⟩
 | xd fs=>obtain ⟨mA,⟨od,es,ep,e,c⟩,r⟩:=x;exact ⟨mA,⟨od,es,ep,k _ _ (.inl rfl) e,c⟩,r⟩
 | rng lo hi=>obtain ⟨t,u,v,e⟩:=x;exact ⟨t,u,v,k _ _ (.inl rfl) e⟩
 | frz ob u ih=>obtain ⟨e,q⟩:=x;exact ⟨k _ _ (.inl rfl) e,ih q⟩
 | tbl ps =>
  have e:h.get? a=some { cls:=.none,data:=.fields ps }:=x
  show h'.get? a=some { cls:=.none,data:=.fields ps }
  exact k a _ (.inl rfl) e
 | met f y =>
  have e:h.get? a=some (PySem.W.methodObj (.ref f) (.ref y)):=x
  show h'.get? a=some (PySem.W.methodObj (.ref f) (.ref y))
  exact k a _ (.inl rfl) e
 | ext φ=>obtain ⟨p,⟨o,e⟩,st⟩:=x;exact ⟨st _ _ p fun o q=>k _ _ (.inl rfl) q,⟨o,k _ _ (.inl rfl) e⟩,st⟩
theorem HOk.lt (x:HOk P w H h) (e:H a=some o):a < h.objs.size:=(x a o e).lt
theorem HOk.fresh (x:HOk P w H h) (e:h.objs.size≤a):H a=none:=by
 cases q:H a with
 | none=>rfl
 | some u=>exact absurd (Nat.lt_of_lt_of_le (x.lt q) e) (Nat.lt_irrefl _)
theorem HOk.kept (x:HOk P w H h) (k:∀ b u,h.get? b=some u→h'.get? b=some u):HOk P w H h':=fun a o e =>
 (x a o e).stay (fun b u _ q=>k b u q) (fun _ q=>q) fun _ _ q=>q
theorem HOk.laid (x:HOk P w H h) (k:∀ b u,h.get? b=some u→h'.get? b=some u) (hp:h.objs.size≤a) (new:ObjOk P w (upd H a o) h' a o):HOk P w (upd H a o) h':=fun b u e=>by
 have hn:=x.fresh hp
 by_cases hb:b=a
 ·subst hb;rw [upd_same] at e;cases e;exact new
 ·rw [upd_ne hb] at e
  exact (x b u e).stay (fun c v _ q=>k c v q) (fun c q=>by rw [upd_ne (ne_of_none q hn)];exact q) fun c xs q=>by rw [upd_ne (ne_of_none q hn)];exact q
end
def Rd (H:Hp) (a:Addr) (u:HO):Prop:=H a=some u∨∃ o,H a=some (.frz o u)
theorem Rd.of {H:Hp} {a:Addr} {u:HO} (h:H a=some u):Rd H a u:=.inl h
theorem Rd.ok {P:Program} {w:World} {H:Hp} {h:Heap} {a:Addr} {u:HO} (r:Rd H a u) (x:HOk P w H h):ObjOk P w H h a u:=by
 rcases r with r | ⟨o,r⟩
 ·exact x a u r
 ·obtain ⟨_,q⟩:=x a _ r
  exact q
def Mut:Option HO→Prop
 | some (.lst _)=>True
 | some (.dK _)=>True
 | some (.dT _)=>True
 | some (.set _ _)=>True
 | some (.ins _ _ _)=>True
 | some (.ext _)=>True
 | _=>False
section
variable {P:Program} {w:World} {H:Hp} {h h':Heap} {x e:Addr} {o':HO}
theorem HOk.write (ok : HOk P w H h) (mu : Mut (H x)) (he : e = x ∨ H e = some (.own x)) (k : ∀ b u, b ≠ e → h.get? b = some u → h'.get? b = some u) (heo : ∃ u, h'.get? e = some u)
    (new : ObjOk P w (upd H x o') h' x o') : HOk P w (upd H x o') h' := fun b u q => by
  have nown : ∀ c y, H c = some (.own y) → c ≠ x := fun c y r z => by subst z; rw [r] at mu; exact mu
  have ntup : ∀ c xs, H c = some (.tup xs) → c ≠ x := fun c xs r z => by subst z; rw [r] at mu; exact mu
  by_cases hb : b = x
  · subst hb; rw [upd_same] at q; cases q; exact new
  · rw [upd_ne hb] at q
    by_cases hbe : b = e
    · have q' : H b = some (.own x) := by
        rcases he with z | z
        · exact absurd (hbe.trans z) hb
        · rw [hbe]; exact z
      rw [q] at q'; cases q'
      obtain ⟨v, hv⟩ := heo
      exact ⟨v, by rw [hbe]; exact hv⟩
    · refine (ok b u q).stay (fun c v hc r => k c v ?_ r) (fun c r => by rw [upd_ne (nown c b r)]; exact r) fun c xs r => by rw [upd_ne (ntup c xs r)]; exact r
      rcases hc with rfl | hc
      · exact hbe
      · rintro rfl
        rcases he with z | z
        · exact nown c b hc z
        · rw [hc] at z; cases z; exact hb rfl
end
structure Un (fs ex:List Addr) (H H':Hp) (h h':Heap):Prop where
 keep:∀ b o,h.get? b=some o→H b=none→b ∉ fs→b ∉ ex→h'.get? b=some o
 slot:∀ b o,h.get? b=some o→H b=none→b ∈ fs→b ∉ ex→∃ sl,h'.get? b=some { o with slots:=sl }
 free:∀ b o,h.get? b=some o→H b=none→b ∉ ex→H' b=none
 there:∀ b o,h.get? b=some o→b ∉ ex→∃ o',h'.get? b=some o'
 tups:∀ b xs,H b=some (.tup xs)→H' b=some (.tup xs)
 frzs:∀ b o u,H b=some (.frz o u)→H' b=some (.frz o u)
 tbls:∀ b ps,H b=some (.tbl ps)→∃ more,H' b=some (.tbl (ps++more))
section
variable {fs fs' ex ex':List Addr} {H H1 H2:Hp} {h h1 h2 h':Heap} {a x e:Addr} {o:HO}
theorem Un.any (u:Un fs ex H H1 h h1) {b:Addr} {ob:Obj} (q:h.get? b=some ob) (n:H b=none) (hx:b ∉ ex):∃ sl,h1.get? b=some { ob with slots:=sl }:=by
 by_cases hb:b ∈ fs
 ·exact u.slot b ob q n hb hx
 ·exact ⟨ob.slots,u.keep b ob q n hb hx⟩
theorem Un.trans (a:Un fs ex H H1 h h1) (b:Un fs ex H1 H2 h1 h2):Un fs ex H H2 h h2 where
 keep:=fun c ob q n hc hx=>b.keep c ob (a.keep c ob q n hc hx) (a.free c ob q n hx) hc hx
 slot:=fun c ob q n hc hx=>by
  obtain ⟨sl,e1⟩:=a.slot c ob q n hc hx
  obtain ⟨sl',e2⟩:=b.slot c _ e1 (a.free c ob q n hx) hc hx
  exact ⟨sl',e2⟩
 free:=fun c ob q n hx=>by
  obtain ⟨o',e1⟩:=a.there c ob q hx
  exact b.free c o' e1 (a.free c ob q n hx) hx
 there:=fun c ob q hx=>by
  obtain ⟨o',e1⟩:=a.there c ob q hx
  exact b.there c o' e1 hx
 tups:=fun c xs q=>b.tups c xs (a.tups c xs q)
 frzs:=fun c ob xs q=>b.frzs c ob xs (a.frzs c ob xs q)
 tbls:=fun c ps q=>by
  obtain ⟨m1,e1⟩:=a.tbls c ps q
  obtain ⟨m2,e2⟩:=b.tbls c _ e1
  exact ⟨m1++m2,by rw [e2,Array.append_assoc]⟩
theorem Un.kept (k:∀ b u,h.get? b=some u→h'.get? b=some u):Un fs ex H H h h' :=
 ⟨fun b ob q _ _ _=>k b ob q,fun b ob q _ _ _=>⟨ob.slots,k b ob q⟩,fun _ _ _ n _=>n,fun b ob q _=>⟨ob,k b ob q⟩,fun _ _ q=>q,fun _ _ _ q=>q,fun _ ps q=>⟨#[],by rw [q];simp⟩⟩
theorem Un.refl:Un fs ex H H h h:=Un.kept fun _ _ q=>q
theorem Un.laid (k:∀ b u,h.get? b=some u→h'.get? b=some u) (hp:h.objs.size≤a) (hn:H a=none):Un fs ex H (upd H a o) h h' where
 keep:=fun b u q _ _ _=>k b u q
 slot:=fun b u q _ _ _=>⟨u.slots,k b u q⟩
 free:=fun b u q n _=>by rw [upd_ne (Nat.ne_of_lt (Nat.lt_of_lt_of_le (Heap.lt_size q) hp))];exact n
 there:=fun b u q _=>⟨u,k b u q⟩
 tups:=fun b xs q=>by rw [upd_ne (ne_of_none q hn)];exact q
 frzs:=fun b u xs q=>by rw [upd_ne (ne_of_none q hn)];exact q
 tbls:=fun b ps q=>⟨#[],by rw [upd_ne (ne_of_none q hn),q];simp⟩
theorem Un.write (mu:Mut (H x)) (he:e=x∨H e=some (.own x)) (k:∀ b u,b≠e→h.get? b=some u→h'.get? b=some u) (heo:∃ u,h'.get? e=some u):Un fs ex H (upd H x o) h h':=by
 have hx:∀ b,H b=none→b≠x:=fun b n z=>by subst z;rw [n] at mu;exact mu
 have hb:∀ b,H b=none→b≠e:=fun b n z=>by
  subst z
  rcases he with r | r
  ·exact hx b n r
  ·rw [n] at r;cases r
 have hm:∀ b u,H b=some u→¬ Mut (some u)→b≠x:=fun b u q nm z=>by subst z;rw [q] at mu;exact nm mu
 refine ⟨fun b u q n _ _=>k b u (hb b n) q,fun b u q n _ _=>⟨u.slots,k b u (hb b n) q⟩,fun b u q n _=>by rw [upd_ne (hx b n)];exact n,fun b u q _=>?_,
  fun b xs q=>by rw [upd_ne (hm b _ q fun z=>z)];exact q,fun b u xs q=>by rw [upd_ne (hm b _ q fun z=>z)];exact q,fun b ps q=>⟨#[],by rw [upd_ne (hm b _ q fun z=>z),q];simp⟩⟩
 by_cases hbe:b=e
 ·subst hbe;exact heo
 ·exact ⟨u,k b u hbe q⟩
theorem Un.mono (u:Un fs ex H H1 h h1) (hs:∀ b ∈ fs,b ∈ fs') (hx:∀ b ∈ ex,b ∈ ex'):Un fs' ex' H H1 h h1 :=
 ⟨fun b ob q n hb he=>u.keep b ob q n (fun z=>hb (hs b z)) fun z=>he (hx b z),fun _ _ q n _ he=>u.any q n fun z=>he (hx _ z),fun b ob q n he=>u.free b ob q n fun z=>he (hx b z),fun b ob q he=>u.there b ob q fun z=>he (hx b z),u.tups,u.frzs,u.tbls⟩
end
def trk (h:Heap) (H:Hp):List Addr:=(List.range h.objs.size).filter fun a=>(H a).isSome
def hidT (h:Heap) (H:Hp):Heap:=PySem.W.hideAll h (trk h H)
theorem hidT_size (h:Heap) (H:Hp):(hidT h H).objs.size=h.objs.size:=PySem.W.hideAll_size _ _
theorem hidT_get {h:Heap} {H:Hp} {b:Addr} {o:Obj} (e:h.get? b=some o) (n:H b=none):(hidT h H).get? b=some o :=
 PySem.W.hideAll_get _ e fun hm=>by
  have q:(H b).isSome=true:=(List.mem_filter.mp hm).2
  rw [n] at q;simp at q
theorem of_hidT {h:Heap} {H:Hp} {b:Addr} {o:Obj} (e:(hidT h H).get? b=some o):h.get? b=some o∧H b=none:=by
 have e':h.get? b=some o:=PySem.W.of_hideAll (trk h H) e
 refine ⟨e',?_⟩
 cases q:H b with
 | none=>rfl
 | some x =>
  have hm:b ∈ trk h H:=List.mem_filter.mpr ⟨List.mem_range.mpr (Heap.lt_size e'),by simp [q]⟩
  have z:(hidT h H).get? b=none:=PySem.W.hideAll_none (trk h H) hm
  rw [z] at e;cases e
def allNews (g h:Heap) (L:Addr):List (Addr × Obj):=(List.range h.objs.size).filterMap fun a=>if a=L∨(g.get? a).isSome=true then none else (h.get? a).map fun o=>(a,o)
def rest (g h:Heap) (L d:Addr):List (Addr × Obj):=(allNews g h L).filter fun p=>decide (p.1≠d)
end L2
namespace L2
open PySem PySem.Spec PyProof.Rows
structure Mod (K:PySem.W.Frag) (mg:Str→Option Value) (base:Heap):Prop where
 kin:K.In base
 glob:base.Ns mainGlobals mg
 blt:∃ mb,base.Ns builtinsNs mb∧∀ x:Str,x≠"__name__"→mb x=bootBuiltins x
 nolimit:base.NoLimit
structure Cx where
 prog:Program
 w:World
 K:PySem.W.Frag
 mg:Str→Option Value
 base:Heap
 A:Around
 N:List Str
 s₀:Shared
 H₀:Hp
 env:Env
 outer:List Env
 stack:List Env
 ex:List Addr
 fn:Str→Bool
 calm:Bool
 pn:List (Addr × Obj)
 xe:Value→Shared→Prop
def frs (l:List Env):List Addr:=l.filterMap (·.frame)
abbrev Cx.fs (X:Cx):List Addr:=frs X.outer
def Vis (sc:Scope) (x:Str):Prop:=sc.names.lookup x=some .local∨sc.names.lookup x=some .cell∨sc.names.lookup x=some .free
def Loc (sc:Scope) (x:Str):Prop:=sc.names.lookup x=some .local∨sc.names.lookup x=some .cell
def Look (env:Env) (h:Heap) (m:Str→Option Value) (x:Str) (u:Value):Prop :=
 (env.kindOf x=some .local∧m x=some u)∨((env.kindOf x=some .cell∨env.kindOf x=some .free)∧∃ c,env.cells.lookup x=some c∧h.IsCell c (some u))
structure Cx.Ok (X:Cx):Prop where
 mod:Mod X.K X.mg X.base
 kind:X.env.scope.kind=.function
 glob:X.env.globals=mainGlobals
 blt:X.env.builtins=builtinsNs
 above:X.s₀.heap.objs.size≤X.env.locals
 inj:∀ x y c,X.env.cells.lookup x=some c→X.env.cells.lookup y=some c→x=y
 has:∀ x,(X.env.kindOf x=some .cell∨X.env.kindOf x=some .free)→∃ c,X.env.cells.lookup x=some c
 cab:∀ x c,X.fn x=true→X.env.cells.lookup x=some c→X.s₀.heap.objs.size≤c
 hd:X.calm=true→X.A.handled=none
 frames:X.A.frames=some X.stack
 stk:X.stack=X.outer∨(X.stack=X.env::X.outer∧X.env.frame=some X.env.locals)
 exf:∀ b ∈ X.ex,b≠X.env.locals∧∀ x c,X.env.cells.lookup x=some c→c≠b
 bs:∀ b o,X.base.get? b=some o→X.s₀.heap.get? b=some o∧X.H₀ b=none
 bsz:X.base.objs.size≤X.s₀.heap.objs.size
 noex:∀ b o,X.base.get? b=some o→b ∉ X.ex
 exfs:∀ b ∈ X.ex,b ∉ X.fs
 funs:X.s₀.heap.FunFrames X.base X.outer
 frf:∀ b ∈ X.fs,X.H₀ b=none
structure Inv (X:Cx) (pins:List (Addr × Obj)) (σ:List (Option V)) (H:Hp) (s:Shared):Prop where
 ok:X.Ok
 os:s.os=X.s₀.os
 bare:AllBare s.gens
 base:Un X.fs X.ex X.H₀ H X.s₀.heap s.heap
 loc:∃ m,s.heap.Ns X.env.locals m∧∀ (i:Nat) (x:Str) (v:V),X.N[i]?=some x→σ[i]?=some (some v)→Vis X.env.scope x→∃ u,RelV v u∧Look X.env s.heap m x u
 cell:∀ x c,X.env.cells.lookup x=some c→∃ v,s.heap.IsCell c v
 free:H X.env.locals=none
 freeC:∀ x c,X.env.cells.lookup x=some c→H c=none
 pin:∀ p ∈ X.pn++pins,s.heap.get? p.1=some p.2∧H p.1=none∧p.1≠X.env.locals∧p.1 ∉ X.fs∧∀ v,p.2.data≠.cell v
 hok:HOk X.prog X.w H s.heap
 len:σ.length=X.N.length
section
variable {X:Cx} {pins:List (Addr × Obj)} {σ:List (Option V)} {H H':Hp} {s:Shared} {h':Heap}
theorem Cx.Ok.nofr (ok:X.Ok) {b:Addr} {o:Obj} (e:X.base.get? b=some o):b ∉ X.fs:=fun hb=>by
 have:=(ok.funs.mem hb).1
 rw [e] at this;cases this
theorem Inv.bs (I:Inv X pins σ H s):∀ b o,X.base.get? b=some o→s.heap.get? b=some o∧H b=none:=fun b o e =>
 ⟨I.base.keep b o (I.ok.bs b o e).1 (I.ok.bs b o e).2 (I.ok.nofr e) (I.ok.noex b o e),I.base.free b o (I.ok.bs b o e).1 (I.ok.bs b o e).2 (I.ok.noex b o e)⟩
theorem Inv.bk (I:Inv X pins σ H s):∀ b o,X.base.get? b=some o→s.heap.get? b=some o:=fun b o e=>(I.bs b o e).1
theorem Inv.mod (I:Inv X pins σ H s):Mod X.K X.mg X.base:=I.ok.mod
theorem Inv.kIn (I:Inv X pins σ H s):X.K.In s.heap:=I.ok.mod.kin.keeps I.bk
theorem Inv.nolimit (I:Inv X pins σ H s):s.heap.NoLimit:=I.ok.mod.nolimit.keeps I.bk
theorem Inv.fr (I:Inv X pins σ H s):∃ m,Fr X.base X.env.locals s.heap m :=
 let ⟨m,hn,_⟩:=I.loc
 ⟨m,hn,I.bk,Nat.le_trans I.ok.bsz I.ok.above⟩
theorem Inv.lt (I:Inv X pins σ H s):X.env.locals < s.heap.objs.size:=let ⟨_,hn,_⟩:=I.loc;hn.lt
theorem Inv.sz (I:Inv X pins σ H s):X.s₀.heap.objs.size≤s.heap.objs.size:=Nat.le_trans I.ok.above (Nat.le_of_lt I.lt)
theorem Inv.nofs (I:Inv X pins σ H s) {a:Addr} (h:s.heap.objs.size≤a):a ∉ X.fs:=fun hb=>by
 obtain ⟨_,o,ho,_⟩:=I.ok.funs.mem hb
 exact absurd (Nat.lt_of_lt_of_le (Heap.lt_size ho) (Nat.le_trans I.sz h)) (Nat.lt_irrefl _)
theorem Inv.cne (I:Inv X pins σ H s):∀ x c,X.env.cells.lookup x=some c→c≠X.env.locals:=fun x c e z=>by
 obtain ⟨v,o,ho,hd⟩:=I.cell x c e
 obtain ⟨m,⟨o',es,ep,ho',hd',_⟩,_⟩:=I.loc
 rw [z,ho'] at ho;cases ho;rw [hd'] at hd;cases hd
theorem Inv.funs (I:Inv X pins σ H s):s.heap.FunFrames X.base X.outer:=by
 have all:∀ (l:List Env),(∀ b ∈ frs l,b ∈ X.fs)→X.s₀.heap.FunFrames X.base l→s.heap.FunFrames X.base l:=by
  intro l
  induction l with
  | nil=>intro _ _;trivial
  | cons env r ih =>
   intro hs hl
   obtain ⟨hk,⟨L,o,hf,hn,ho,hd⟩,hr⟩:=hl
   have hL:L ∈ X.fs:=hs L (by unfold frs;rw [List.filterMap_cons,hf];exact List.mem_cons_self)
   obtain ⟨sl,e⟩:=I.base.slot L o ho (I.ok.frf L hL) hL fun z=>I.ok.exfs L z hL
   exact ⟨hk,⟨L,_,hf,hn,e,hd⟩,ih (fun b hb=>hs b (by unfold frs;rw [List.filterMap_cons,hf];exact List.mem_cons_of_mem _ hb)) hr⟩
 exact all X.outer (fun _ hb=>hb) I.ok.funs
theorem Inv.stack (I:Inv X pins σ H s):s.heap.FunFrames X.base X.stack:=by
 rcases I.ok.stk with e | ⟨e,hf⟩
 ·rw [e];exact I.funs
 ·rw [e]
  obtain ⟨m,hn,_⟩:=I.loc
  refine .cons (by rw [I.ok.kind];decide) hf hn ?_ I.funs
  exact Heap.get?_none_of_le (Nat.le_trans I.ok.bsz I.ok.above)
theorem Inv.stkSub (I:Inv X pins σ H s):∀ b ∈ frs X.stack,b ∈ X.env.locals::X.fs:=fun b hb=>by
 rcases I.ok.stk with e | ⟨e,hf⟩
 ·rw [e] at hb;exact List.mem_cons_of_mem _ hb
 ·rw [e] at hb
  unfold frs at hb
  rw [List.filterMap_cons,hf] at hb
  exact hb
theorem Inv.stkFree (I:Inv X pins σ H s):∀ b ∈ frs X.stack,H b=none:=fun b hb=>by
 rcases List.mem_cons.mp (I.stkSub b hb) with e | hb
 ·rw [e];exact I.free
 ·obtain ⟨_,o,ho,_⟩:=I.ok.funs.mem hb
  exact I.base.free b o ho (I.ok.frf b hb) fun z=>I.ok.exfs b z hb
theorem Inv.step {g':Array GenState} {t':Nat} {d':Drawn} {ch:List Addr} (I:Inv X pins σ H s)
  (hch:∀ b ∈ ch,(b ∈ X.ex∨X.s₀.heap.objs.size≤b)∧b≠X.env.locals∧(∀ x c,X.env.cells.lookup x=some c→c≠b)∧∀ p ∈ X.pn++pins,p.1≠b)
  (keep:∀ b o,b≠X.env.locals→b ∉ X.fs→b ∉ ch→s.heap.get? b=some o→H b=none→h'.get? b=some o)
  (slot:∀ b o,b≠X.env.locals→b ∈ X.fs→b ∉ ch→s.heap.get? b=some o→H b=none→∃ sl,h'.get? b=some { o with slots:=sl }) (free:∀ b o,b ∉ ch→s.heap.get? b=some o→H b=none→H' b=none)
  (there:∀ b o,b ∉ ch→s.heap.get? b=some o→∃ o',h'.get? b=some o')
  (tups:∀ b xs,H b=some (.tup xs)→H' b=some (.tup xs)) (frzs:∀ b o u,H b=some (.frz o u)→H' b=some (.frz o u)) (tbls:∀ b ps,H b=some (.tbl ps)→∃ more,H' b=some (.tbl (ps++more)))
  (ns:∀ m,s.heap.Ns X.env.locals m→h'.Ns X.env.locals m) (hok:HOk X.prog X.w H' h') (hg:AllBare g') :
  Inv X pins σ H' { s with heap:=h',gens:=g',drawn:=d',toks:=t' }:=by
 have neL:∀ b o,X.s₀.heap.get? b=some o→b≠X.env.locals:=fun b o e=>Nat.ne_of_lt (Nat.lt_of_lt_of_le (Heap.lt_size e) I.ok.above)
 have neC:∀ b o,X.s₀.heap.get? b=some o→b ∉ X.ex→b ∉ ch:=fun b o e hx hb=>by
  rcases (hch b hb).1 with z | z
  ·exact hx z
  ·exact absurd (Nat.lt_of_lt_of_le (Heap.lt_size e) z) (Nat.lt_irrefl _)
 have cellK:∀ x c,X.env.cells.lookup x=some c→∀ v,s.heap.IsCell c v→h'.IsCell c v:=fun x c e v ⟨o,ho,hd⟩=>by
  have nch:c ∉ ch:=fun z=>(hch c z).2.2.1 x c e rfl
  by_cases hc:c ∈ X.fs
  ·obtain ⟨sl,q⟩:=slot c o (I.cne x c e) hc nch ho (I.freeC x c e)
   exact ⟨_,q,hd⟩
  ·exact ⟨o,keep c o (I.cne x c e) hc nch ho (I.freeC x c e),hd⟩
 refine ⟨I.ok,I.os,hg,⟨fun b o e n hb hx=>?_,fun b o e n hb hx=>?_,fun b o e n hx=>?_,fun b o e hx=>?_,fun b xs e=>tups b xs (I.base.tups b xs e),fun b o xs e=>frzs b o xs (I.base.frzs b o xs e),fun b ps e=>?_⟩,?_,fun x c e=>?_,?_,fun x c e=>?_,fun p hp=>?_,hok,I.len⟩
 ·exact keep b o (neL b o e) hb (neC b o e hx) (I.base.keep b o e n hb hx) (I.base.free b o e n hx)
 ·obtain ⟨sl,e1⟩:=I.base.slot b o e n hb hx
  obtain ⟨sl',e2⟩:=slot b _ (neL b o e) hb (neC b o e hx) e1 (I.base.free b o e n hx)
  exact ⟨sl',e2⟩
 ·obtain ⟨o',e1⟩:=I.base.there b o e hx
  exact free b o' (neC b o e hx) e1 (I.base.free b o e n hx)
 ·obtain ⟨o',e1⟩:=I.base.there b o e hx
  exact there b o' (neC b o e hx) e1
 ·obtain ⟨m1,e1⟩:=I.base.tbls b ps e
  obtain ⟨m2,e2⟩:=tbls b _ e1
  exact ⟨m1++m2,by rw [e2,Array.append_assoc]⟩
 ·obtain ⟨m,hn,hl⟩:=I.loc
  refine ⟨m,ns m hn,fun i x v e1 e2 e3=>?_⟩
  obtain ⟨u,r,l⟩:=hl i x v e1 e2 e3
  refine ⟨u,r,?_⟩
  rcases l with l | ⟨k,c,e,z⟩
  ·exact .inl l
  ·exact .inr ⟨k,c,e,cellK x c e _ z⟩
 ·obtain ⟨v,z⟩:=I.cell x c e
  exact ⟨v,cellK x c e v z⟩
 ·obtain ⟨m,⟨o,_,_,ho,_⟩,_⟩:=I.loc
  exact free _ o (fun z=>(hch _ z).2.1 rfl) ho I.free
 ·obtain ⟨v,o,ho,hd⟩:=I.cell x c e
  exact free c o (fun z=>(hch c z).2.2.1 x c e rfl) ho (I.freeC x c e)
 ·obtain ⟨e,n,ne,nf,d⟩:=I.pin p hp
  have nch:p.1 ∉ ch:=fun z=>(hch p.1 z).2.2.2 p hp rfl
  exact ⟨keep p.1 p.2 ne nf nch e n,free p.1 p.2 nch e n,ne,nf,d⟩
theorem Inv.un {t':Nat} (I:Inv X pins σ H s) (u:Un X.fs [] H H' s.heap h') (hok:HOk X.prog X.w H' h'):Inv X pins σ H' { s with heap:=h',toks:=t' }:=by
 obtain ⟨m,⟨o,es,ep,ho,r⟩,_⟩:=id I.loc
 obtain ⟨sl,hL⟩:=u.any ho I.free (by simp)
 exact I.step (g':=s.gens) (d':=s.drawn) (ch:=[]) (fun _ z=>nomatch z) (fun b o _ hb _ e n=>u.keep b o e n hb (by simp)) (fun b o _ hb _ e n=>u.slot b o e n hb (by simp)) (fun b o _ e n=>u.free b o e n (by simp)) (fun b o _ e=>u.there b o e (by simp)) u.tups u.frzs u.tbls (fun m' hm=>by
  obtain ⟨o',es',ep',ho',r'⟩:=hm
  rw [ho] at ho';cases ho'
  exact ⟨_,es',ep',hL,r'⟩) hok I.bare
theorem Inv.call {g':Array GenState} {t':Nat} {d':Drawn} {ch:List Addr} (I:Inv X pins σ H s) (u:Un (frs X.stack) ch H H' s.heap h') (hok:HOk X.prog X.w H' h') (hg:AllBare g')
  (hch:∀ b ∈ ch,(b ∈ X.ex∨X.s₀.heap.objs.size≤b)∧b≠X.env.locals∧(∀ x c,X.env.cells.lookup x=some c→c≠b)∧∀ p ∈ X.pn++pins,p.1≠b) :
  Inv X pins σ H' { s with heap:=h',gens:=g',drawn:=d',toks:=t' }:=by
 obtain ⟨m,⟨o,es,ep,ho,r⟩,_⟩:=id I.loc
 obtain ⟨sl,hL⟩:=u.any ho I.free fun z=>(hch _ z).2.1 rfl
 exact I.step (ch:=ch) hch (fun b o hL hb hc e n=>u.keep b o e n (fun z=>(List.mem_cons.mp (I.stkSub b z)).elim hL hb) hc) (fun b o _ _ hc e n=>u.any e n hc) (fun b o hc e n=>u.free b o e n hc) (fun b o hc e=>u.there b o e hc) u.tups u.frzs u.tbls (fun m' hm=>by
  obtain ⟨o',es',ep',ho',r'⟩:=hm
  rw [ho] at ho';cases ho'
  exact ⟨_,es',ep',hL,r'⟩) hok hg
theorem Inv.turned {t':Nat} {it:Addr} (I:Inv X pins σ H s) (k:∀ b o,b≠it→s.heap.get? b=some o→h'.get? b=some o) (hn:H it=none) (hL:it≠X.env.locals)
  (h1:it ∈ X.ex∨X.s₀.heap.objs.size≤it) (h2:∀ x c,X.env.cells.lookup x=some c→c≠it) (h3:∀ p ∈ X.pn++pins,p.1≠it):Inv X pins σ H { s with heap:=h',toks:=t' }:=by
 have nit:∀ b u,H b=some u→b≠it:=fun b u e z=>by rw [z,hn] at e;cases e
 refine I.step (g':=s.gens) (d':=s.drawn) (ch:=[it]) (fun b hb=>?_) (fun b o _ _ hc e _=>k b o (fun z=>hc (by simp [z])) e) (fun b o _ _ hc e _=>⟨o.slots,k b o (fun z=>hc (by simp [z])) e⟩) (fun _ _ _ _ n=>n)
  (fun b o hc e=>⟨o,k b o (fun z=>hc (by simp [z])) e⟩) (fun _ _ e=>e) (fun _ _ _ e=>e) (fun b ps e=>⟨#[],by rw [e];simp⟩) (fun m hm=>?_) (fun b u e=>?_) I.bare
 ·have e:b=it:=by simpa using hb
  subst e
  exact ⟨h1,hL,h2,h3⟩
 ·obtain ⟨o,es,ep,ho,r⟩:=hm
  exact ⟨o,es,ep,k _ o (Ne.symm hL) ho,r⟩
 ·refine (I.hok b u e).stay (fun c v hc q=>k c v ?_ q) (fun _ q=>q) fun _ _ q=>q
  rcases hc with z | z
  ·rw [z];exact nit b u e
  ·exact nit c _ z
theorem Inv.tok (I:Inv X pins σ H s) (t:Nat):Inv X pins σ H { s with toks:=t }:=I.un (h':=s.heap) (t':=t) Un.refl I.hok
theorem Inv.kept {t':Nat} (I:Inv X pins σ H s) (k:∀ b u,s.heap.get? b=some u→h'.get? b=some u):Inv X pins σ H { s with heap:=h',toks:=t' }:=I.un (Un.kept k) (I.hok.kept k)
theorem Inv.laid {a:Addr} {o:HO} {t':Nat} (I:Inv X pins σ H s) (k:∀ b u,s.heap.get? b=some u→h'.get? b=some u) (hp:s.heap.objs.size≤a) (new:ObjOk X.prog X.w (upd H a o) h' a o) :
  Inv X pins σ (upd H a o) { s with heap:=h',toks:=t' }:=I.un (Un.laid k hp (I.hok.fresh hp)) (I.hok.laid k hp new)
theorem Inv.write {x e:Addr} {o:HO} {t':Nat} (I:Inv X pins σ H s) (mu:Mut (H x)) (he:e=x∨H e=some (.own x)) (k:∀ b u,b≠e→s.heap.get? b=some u→h'.get? b=some u) (heo:∃ u,h'.get? e=some u)
  (new:ObjOk X.prog X.w (upd H x o) h' x o):Inv X pins σ (upd H x o) { s with heap:=h',toks:=t' }:=I.un (Un.write mu he k heo) (I.hok.write mu he k heo new)
theorem Inv.pins_of {pins':List (Addr × Obj)} (I:Inv X pins σ H s) (h:∀ p ∈ pins',s.heap.get? p.1=some p.2∧H p.1=none∧p.1≠X.env.locals∧p.1 ∉ X.fs∧∀ v,p.2.data≠.cell v):Inv X pins' σ H s :=
 ⟨I.ok,I.os,I.bare,I.base,I.loc,I.cell,I.free,I.freeC,fun p hp=>(List.mem_append.mp hp).elim (fun z=>I.pin p (List.mem_append_left _ z)) (h p),I.hok,I.len⟩
theorem nodup_ix {N:List Str} (hN:N.Nodup) {i j:Nat} {x:Str} (a:N[i]?=some x) (b:N[j]?=some x):i=j:=by
 obtain ⟨h1,e1⟩:=List.getElem?_eq_some_iff.mp a
 obtain ⟨h2,e2⟩:=List.getElem?_eq_some_iff.mp b
 exact (List.getElem_inj hN).mp (e1.trans e2.symm)
theorem store_ok2 {M : Model} {A : Around} {E : Value → Shared → Prop} {i : Nat} {x : Str} {v : V} {u : Value} {Q : Unit → Shared → Prop} (I : Inv X pins σ H s) (hN : X.N.Nodup) (hi : X.N[i]? = some x) (hx : Loc X.env.scope x) (r : RelV v u)
    (h : ∀ s', Inv X pins (σ.set i (some v)) H s' → (∃ a, Heap.SameBut a s.heap s'.heap ∧ (a = X.env.locals ∨ X.env.cells.lookup x = some a)) → Q () s') (hf : X.fn x = true ∨ X.env.scope.names.lookup x = some .local := by first | exact .inl rfl | exact .inr rfl | assumption) : wpAny M A (storeName X.env x u) Q E s := by
  obtain ⟨m, hn, hl⟩ := id I.loc
  have hcls : (X.env.scope.kind == .class || (X.env.scope.kind == .module && X.env.locals != X.env.globals)) = false := by rw [I.ok.kind]; rfl
  have hiσ : i < σ.length := by rw [I.len]; exact (List.getElem?_eq_some_iff.mp hi).1
  have cne := I.cne
  have tracked : ∀ {a : Addr} {h' : Heap}, (∃ o, s.heap.get? a = some o ∧ H a = none) → Heap.SameBut a s.heap h' → HOk X.prog X.w H h' := fun {a h'} ha hs b ob e => by
    obtain ⟨_, _, hfree⟩ := ha
    refine (I.hok b ob e).stay (fun c w' hc q => (hs.2 c ?_).trans q) (fun _ q => q) fun _ _ q => q
    rintro rfl
    rcases hc with rfl | hc
    · rw [hfree] at e; cases e
    · rw [hfree] at hc; cases hc
  rcases hx with hk | hk
  · refine wpAny_storeName_local hk hn (fun h' hn' hs => ?_) hcls
    obtain ⟨oL, _, _, hoL, _⟩ := id hn
    refine h _ ⟨I.ok, I.os, I.bare, ⟨fun b o e n hb hx => ?_, fun b o e n hb hx => ?_, I.base.free, fun b o e hx => ?_, I.base.tups, I.base.frzs, I.base.tbls⟩, ⟨_, hn', fun j y v' e1 e2 e3 => ?_⟩, fun y c e => ?_, I.free, I.freeC, fun p hp => ?_, tracked ⟨oL, hoL, I.free⟩ hs, by simpa using I.len⟩ ⟨_, hs, .inl rfl⟩
    · exact (hs.2 b (Nat.ne_of_lt (Nat.lt_of_lt_of_le (Heap.lt_size e) I.ok.above))).trans (I.base.keep b o e n hb hx)
    · obtain ⟨sl, e1⟩ := I.base.slot b o e n hb hx
      exact ⟨sl, (hs.2 b (Nat.ne_of_lt (Nat.lt_of_lt_of_le (Heap.lt_size e) I.ok.above))).trans e1⟩
    · obtain ⟨o', e1⟩ := I.base.there b o e hx
      exact ⟨o', (hs.2 b (Nat.ne_of_lt (Nat.lt_of_lt_of_le (Heap.lt_size e) I.ok.above))).trans e1⟩
    · by_cases hj : j = i
      · subst hj
        rw [hi] at e1; cases e1
        rw [List.getElem?_set_self hiσ] at e2
        cases e2
        exact ⟨u, r, .inl ⟨hk, by simp⟩⟩
      · rw [List.getElem?_set_ne (Ne.symm hj)] at e2
        obtain ⟨u', r', q⟩ := hl j y v' e1 e2 e3
        refine ⟨u', r', ?_⟩
        rcases q with ⟨k, e⟩ | ⟨k, c, e, z⟩
        · refine .inl ⟨k, ?_⟩
          have : y ≠ x := fun e => hj (nodup_ix hN e1 (e ▸ hi))
          simp [this, e]
        · exact .inr ⟨k, c, e, z.sameBut hs (cne y c e)⟩
    · obtain ⟨w', z⟩ := I.cell y c e
      exact ⟨w', z.sameBut hs (cne y c e)⟩
    · obtain ⟨e, n, ne, nf, d⟩ := I.pin p hp
      exact ⟨(hs.2 p.1 ne).trans e, n, ne, nf, d⟩
  · have hfn : X.fn x = true := by
      rcases hf with z | z
      · exact z
      · rw [z] at hk; cases hk
    obtain ⟨c, hc⟩ := I.ok.has x (.inl hk)
    obtain ⟨w', z⟩ := I.cell x c hc
    refine wpAny_storeName_cell I.ok.kind hk hc z (fun h' hc' hs => ?_)
    obtain ⟨oc, hoc, hocd⟩ := id z
    refine h { s with heap := h' } ⟨I.ok, I.os, I.bare, ⟨fun b o e n hb hx => ?_, fun b o e n hb hx => ?_, I.base.free, fun b o e hx => ?_, I.base.tups, I.base.frzs, I.base.tbls⟩, ⟨m, hn.sameBut hs (Ne.symm (cne x c hc)), fun j y v' e1 e2 e3 => ?_⟩, fun y c' e => ?_, I.free, I.freeC, fun p hp => ?_, tracked ⟨oc, hoc, I.freeC x c hc⟩ hs, by simpa using I.len⟩ ⟨c, hs, .inr hc⟩
    · exact (hs.2 b (Nat.ne_of_lt (Nat.lt_of_lt_of_le (Heap.lt_size e) (I.ok.cab x c hfn hc)))).trans (I.base.keep b o e n hb hx)
    · obtain ⟨sl, e1⟩ := I.base.slot b o e n hb hx
      exact ⟨sl, (hs.2 b (Nat.ne_of_lt (Nat.lt_of_lt_of_le (Heap.lt_size e) (I.ok.cab x c hfn hc)))).trans e1⟩
    · obtain ⟨o', e1⟩ := I.base.there b o e hx
      exact ⟨o', (hs.2 b (Nat.ne_of_lt (Nat.lt_of_lt_of_le (Heap.lt_size e) (I.ok.cab x c hfn hc)))).trans e1⟩
    · by_cases hj : j = i
      · subst hj
        rw [hi] at e1; cases e1
        rw [List.getElem?_set_self hiσ] at e2
        cases e2
        exact ⟨u, r, .inr ⟨.inl hk, c, hc, hc'⟩⟩
      · rw [List.getElem?_set_ne (Ne.symm hj)] at e2
        obtain ⟨u', r', q⟩ := hl j y v' e1 e2 e3
        refine ⟨u', r', ?_⟩
        rcases q with q | ⟨k, c', e, z'⟩
        · exact .inl q
        · refine .inr ⟨k, c', e, z'.sameBut hs ?_⟩
          rintro rfl
          exact hj (nodup_ix hN e1 (I.ok.inj _ _ _ e hc ▸ hi))
    · by_cases hcc : c' = c
      · subst hcc; exact ⟨_, hc'⟩
      · obtain ⟨w2, z2⟩ := I.cell y c' e
        exact ⟨w2, z2.sameBut hs hcc⟩
    · obtain ⟨e, n, ne, nf, d⟩ := I.pin p hp
      refine ⟨(hs.2 p.1 ?_).trans e, n, ne, nf, d⟩
      intro q
      rw [q, hoc] at e
      have q' : oc = p.2 := Option.some.inj e
      exact d w' (by rw [← q']; exact hocd)
theorem store_ok {M:Model} {A:Around} {E:Value→Shared→Prop} {i:Nat} {x:Str} {v:V} {u:Value} {Q:Unit→Shared→Prop} (I:Inv X pins σ H s) (hN:X.N.Nodup) (hi:X.N[i]?=some x) (hx:Loc X.env.scope x) (r:RelV v u)
  (h:∀ s',Inv X pins (σ.set i (some v)) H s'→Q () s') (hf:X.fn x=true∨X.env.scope.names.lookup x=some .local:=by first | exact .inl rfl | exact .inr rfl | assumption):wpAny M A (storeName X.env x u) Q E s :=
 store_ok2 I hN hi hx r (fun s' I' _=>h s' I') hf
theorem Inv.call' {s':Shared} {ch:List Addr} (I:Inv X pins σ H s) (ho:s'.os=s.os) (u:Un (frs X.stack) ch H H' s.heap s'.heap) (hok:HOk X.prog X.w H' s'.heap) (hg:AllBare s'.gens)
  (hch:∀ b ∈ ch,(b ∈ X.ex∨X.s₀.heap.objs.size≤b)∧b≠X.env.locals∧(∀ x c,X.env.cells.lookup x=some c→c≠b)∧∀ p ∈ X.pn++pins,p.1≠b):Inv X pins σ H' s':=by
 obtain ⟨h',g',d',t',o'⟩:=s'
 have e:o'=s.os:=ho
 subst e
 exact I.call (g':=g') (t':=t') (d':=d') u hok hg hch
end
abbrev XK:=Value→Option Addr→Hp→Prop
abbrev St:=List (Option V)
abbrev VK:=V→Hp→Prop
abbrev TE:=St→Hp→VK→Prop
abbrev TT:=St→Hp→(Bool→Hp→Prop)→Prop
abbrev TA:=St→Hp→(List V→Hp→Prop)→Prop
structure Ends where
 nx:St→Hp→Prop
 rt:VK
 bk:St→Hp→Prop:=fun _ _=>False
 ct:St→Hp→Prop:=fun _ _=>False
abbrev TS:=Ends→St→Hp→Prop
def EP (X:Cx) (pins:List (Addr × Obj)) (σ:St) (Q:VK) (u:Value) (s':Shared):Prop:=∃ v H',Inv X pins σ H' s'∧RelV v u∧Q v H'
def TP (X:Cx) (pins:List (Addr × Obj)) (σ:St) (Q:Bool→Hp→Prop) (b:Bool) (s':Shared):Prop:=∃ H',Inv X pins σ H' s'∧Q b H'
def AP (X:Cx) (pins:List (Addr × Obj)) (σ:St) (Q:List V→Hp→Prop) (us:List Value) (s':Shared):Prop:=∃ vs H',Inv X pins σ H' s'∧Vals vs us∧Q vs H'
def SP (X:Cx) (pins:List (Addr × Obj)) (D:Ends) (f:Flow) (s':Shared):Prop :=
 match f with
 | .next=>∃ σ' H',Inv X pins σ' H' s'∧D.nx σ' H'
 | .brk=>∃ σ' H',Inv X pins σ' H' s'∧D.bk σ' H'
 | .cont=>∃ σ' H',Inv X pins σ' H' s'∧D.ct σ' H'
 | .ret u=>∃ v σ' H',Inv X pins σ' H' s'∧RelV v u∧D.rt v H'
def PE (X:Cx) (e:Expr) (t:TE):Prop :=
 ∀ (pins:List (Addr × Obj)) (s:Shared) (σ:St) (H:Hp) (Q:VK),Inv X pins σ H s→t σ H Q→wpAny (model X.prog X.w) X.A (eval e X.env) (EP X pins σ Q) X.xe s
def PT (X:Cx) (e:Expr) (t:TT):Prop :=
 ∀ (pins:List (Addr × Obj)) (s:Shared) (σ:St) (H:Hp) (Q:Bool→Hp→Prop),Inv X pins σ H s→t σ H Q→wpAny (model X.prog X.w) X.A (isTrue e X.env (eval e X.env)) (TP X pins σ Q) X.xe s
def PW (X:Cx) (e:Expr) (t:TT):Prop :=
 ∀ (whole:Sem Value) (pins:List (Addr × Obj)) (s:Shared) (σ:St) (H:Hp) (Q:Bool→Hp→Prop),Inv X pins σ H s→t σ H Q→wpAny (model X.prog X.w) X.A (isTrue e X.env whole) (TP X pins σ Q) X.xe s
def PA (X:Cx) (es:List Expr) (t:TA):Prop :=
 ∀ (pos:Pos) (pins:List (Addr × Obj)) (s:Shared) (σ:St) (H:Hp) (Q:List V→Hp→Prop),Inv X pins σ H s→t σ H Q→wpAny (model X.prog X.w) X.A (spliced (backTo pos (starEach es X.env))) (AP X pins σ Q) X.xe s
def PS (X:Cx) (st:Stmt) (t:TS):Prop :=
 ∀ (pins:List (Addr × Obj)) (s:Shared) (σ:St) (H:Hp) (D:Ends),Inv X pins σ H s→t D σ H→wpAny (model X.prog X.w) X.A (exec st X.env) (SP X pins D) X.xe s
def PSs (X:Cx) (st:List Stmt) (t:TS):Prop :=
 ∀ (pins:List (Addr × Obj)) (s:Shared) (σ:St) (H:Hp) (D:Ends),Inv X pins σ H s→t D σ H→wpAny (model X.prog X.w) X.A (execs st X.env) (SP X pins D) X.xe s
theorem thn {α:Type} {t:Sem α} {Q Q':α→Shared→Prop} {M:Model} {A:Around} {E:Value→Shared→Prop} {s:Shared} (h:wpAny M A t Q E s) (hQ:∀ a s,Q a s→Q' a s):wpAny M A t Q' E s:=wpAny_mono h hQ fun _ _ x=>x
end L2
namespace L2
open PySem PySem.Spec PyProof.Rows
section
variable {X:Cx}
def tVar (i:Nat):TE:=fun σ H Q=>∃ v,σ[i]?=some (some v)∧Q v H
def tC (v:V):TE:=fun _ H Q=>Q v H
theorem pe_var {i:Nat} {x:Str} {pos:Pos} (hN:X.N[i]?=some x) (hv:Vis X.env.scope x) (hd:(x == ("__debug__":Str))=false:=by decide) (hcd:(x == ("__classdict__":Str))=false:=by decide):PE X (.Name x pos) (tVar i):=by
 intro pins s σ H Q I h
 obtain ⟨v,e,h⟩:=h
 obtain ⟨m,hn,hl⟩:=I.loc
 obtain ⟨u,r,l⟩:=hl i x v hN e hv
 have fin:EP X pins σ Q u s:=⟨v,H,I,r,h⟩
 rcases l with ⟨hk,hm⟩ | ⟨hk,c,hc,hcell⟩
 ·exact wpAny_Name (wpAny_loadName_local I.ok.kind hk hn hm fin) hd
 ·rcases hk with hk | hk
  ·exact wpAny_Name (wpAny_loadName_cell I.ok.kind hk hc hcell fin) hd
  ·exact wpAny_Name (wpAny_loadName_free I.ok.kind hk hc hcell fin hcd) hd
theorem pe_int {i j pos}:PE X (.Constant (.int i) j pos) (tC (.int i)):=fun _ _ _ H _ I h=>wpAny_Constant_int ⟨.int i,H,I.tok _,⟨_,rfl⟩,h⟩
theorem pe_bl {b j pos}:PE X (.Constant (.bool b) j pos) (tC (.bl b)):=fun _ _ _ H _ I h=>Constant_bool ⟨.bl b,H,I,rfl,h⟩
theorem pe_non {j pos}:PE X (.Constant .none j pos) (tC .non):=fun _ _ _ H _ I h=>Constant_none ⟨.non,H,I,rfl,h⟩
theorem pe_str {x j pos}:PE X (.Constant (.str x) j pos) (tC (.str x)):=fun _ _ _ H _ I h=>Calls.Constant_str ⟨.str x,H,I.tok _,⟨_,rfl⟩,h⟩
def Gl (X:Cx) (x:Str):Prop:=X.env.kindOf x=some .globalImplicit
theorem ld_glob {E:Value→Shared→Prop} {pins:List (Addr × Obj)} {s:Shared} {σ:St} {H:Hp} {x:Str} {u:Value} {pos:Pos} {Q:Value→Shared→Prop} (I:Inv X pins σ H s) (hg:Gl X x) (hm:X.mg x=some u) (h:Q u s)
  (hd:(x == ("__debug__":Str))=false:=by decide):wpAny (model X.prog X.w) X.A (eval (.Name x pos) X.env) Q E s :=
 Calls.Name_function_global I.ok.kind hg (Calls.loadGlobal_global (by rw [I.ok.glob];exact I.mod.glob.keeps I.bk) hm h) hd
theorem ld_blt {E:Value→Shared→Prop} {pins:List (Addr × Obj)} {s:Shared} {σ:St} {H:Hp} {x:Str} {u:Value} {pos:Pos} {Q:Value→Shared→Prop} (I:Inv X pins σ H s) (hg:Gl X x) (hm:X.mg x=none) (hv:bootBuiltins x=some u) (h:Q u s)
  (hn:x≠"__name__":=by decide) (hd:(x == ("__debug__":Str))=false:=by decide):wpAny (model X.prog X.w) X.A (eval (.Name x pos) X.env) Q E s:=by
 obtain ⟨mb,h1,h2⟩:=I.mod.blt
 exact Calls.Name_function_global I.ok.kind hg (Calls.loadGlobal_builtin (by rw [I.ok.glob];exact I.mod.glob.keeps I.bk) hm (by rw [I.ok.blt];exact h1.keeps I.bk) ((h2 x hn).trans hv) h) hd
theorem pe_glob {x:Str} {v:V} {u:Value} {pos:Pos} (hg:Gl X x) (hm:X.mg x=some u) (r:RelV v u) (hd:(x == ("__debug__":Str))=false:=by decide):PE X (.Name x pos) (tC v) :=
 fun _ _ _ H _ I h=>ld_glob I hg hm ⟨v,H,I,r,h⟩ hd
def t2I (ta tb:TE) (k:Int→Int→Hp→Prop):St→Hp→Prop:=fun σ H=>ta σ H fun x H1=>tb σ H1 fun y H2=>∃ i j,x=.int i∧y=.int j∧k i j H2
variable {a b:Expr} {ta tb:TE} {pos:Pos}
def PC (X:Cx) (op:CmpOp) (a b:Expr) (t:TE):Prop :=
 ∀ (pins:List (Addr × Obj)) (s:Shared) (σ:St) (H:Hp) (Q:VK),Inv X pins σ H s→t σ H Q →
  wpAny (model X.prog X.w) X.A (eval a X.env) (fun v s₁=>wpAny (model X.prog X.w) X.A (eval b X.env) (fun u s₂=>wpAny (model X.prog X.w) X.A (compareOp op v u) (EP X pins σ Q) X.xe s₂) X.xe s₁) X.xe s
theorem nobehind (b:Expr) {op:CmpOp} (h:op≠.In) (h2:op≠.NotIn):behindInMarks op b=false:=by
 have e1:(op == CmpOp.In)=false:=by cases op <;> first | rfl | exact absurd rfl h
 have e2:(op == CmpOp.NotIn)=false:=by cases op <;> first | rfl | exact absurd rfl h2
 cases b <;> simp [behindInMarks,e1,e2]
def tIsN (ta:TE):TE:=fun σ H Q=>ta σ H fun x H1=>Q (.bl (decide (x=.non))) H1
def tB (t:TE):TT:=fun σ H Q=>t σ H fun x H1=>∃ c,x=.bl c∧Q c H1
theorem pt_cmp {op:CmpOp} {t:TE} (h:PC X op a b t) (h1:behindInMarks op b=false:=by first | exact nobehind _ (by decide) (by decide) | rfl):PT X (.Compare a [op] [b] pos) (tB t):=by
 intro pins s σ H Q I hw
 refine wpAny_isTrue_Compare1 (thn (h pins s σ H _ I hw) fun v s1 h1=>thn h1 fun u s2 h2=>thn h2 fun c s3 ⟨x,H1,I1,r1,q1⟩=>?_) h1
 obtain ⟨d,rfl,q⟩:=q1
 cases r1
 exact wpAny_truthy_bool ⟨H1,I1,q⟩
theorem pt_val {e:Expr} {t:TE} (h:PE X e t) (he:∀ whole,isTrue e X.env whole=(do let v ← whole;standAt e.pos;holding [v] (truthy v)):=by intro _;rfl):PT X e (tB t):=by
 intro pins s σ H Q I hw
 refine isTrue_plain (thn (h pins s σ H _ I hw) fun v s1 ⟨x,H1,I1,r1,q1⟩=>?_) (he _)
 obtain ⟨d,rfl,q⟩:=q1
 cases r1
 exact wpAny_truthy_bool ⟨H1,I1,q⟩
variable {tA tB':TT} {rest:List Expr}
def tAnd (t u:TT):TT:=fun σ H Q=>t σ H fun c H1=>if c=true then u σ H1 Q else Q false H1
def tOr (t u:TT):TT:=fun σ H Q=>t σ H fun c H1=>if c=true then Q true H1 else u σ H1 Q
def tNot (t:TT):TT:=fun σ H Q=>t σ H fun c H1=>Q (!c) H1
theorem pw_and1 (ha:PT X a tA):PW X (.BoolOp .And [a] pos) tA:=by
 intro wh pins s σ H Q I h
 refine isTrue_and (thn (ha pins s σ H Q I h) fun c s1 e=>?_)
 cases c with
 | true=>exact isTrue_and_nil e
 | false=>exact e
theorem pw_or1 (ha:PT X a tA):PW X (.BoolOp .Or [a] pos) tA:=by
 intro wh pins s σ H Q I h
 refine isTrue_or (thn (ha pins s σ H Q I h) fun c s1 e=>?_)
 cases c with
 | false=>exact isTrue_or_nil e
 | true=>exact e
theorem pw_and (ha:PT X a tA) (hb:PW X (.BoolOp .And (b::rest) pos) tB'):PW X (.BoolOp .And (a::b::rest) pos) (tAnd tA tB'):=by
 intro wh pins s σ H Q I h
 refine isTrue_and (thn (ha pins s σ H _ I h) fun c s1 ⟨H1,I1,q1⟩=>?_)
 cases c with
 | true=>exact hb wh pins s1 σ H1 Q I1 q1
 | false=>exact ⟨H1,I1,q1⟩
theorem pw_or (ha:PT X a tA) (hb:PW X (.BoolOp .Or (b::rest) pos) tB'):PW X (.BoolOp .Or (a::b::rest) pos) (tOr tA tB'):=by
 intro wh pins s σ H Q I h
 refine isTrue_or (thn (ha pins s σ H _ I h) fun c s1 ⟨H1,I1,q1⟩=>?_)
 cases c with
 | true=>exact ⟨H1,I1,q1⟩
 | false=>exact hb wh pins s1 σ H1 Q I1 q1
theorem pt_not (ha:PT X a tA):PT X (.UnaryOp .Not a pos) (tNot tA):=by
 intro pins s σ H Q I h
 exact isTrue_not (ha pins s σ H (fun c H1=>Q (!c) H1) I h)
def tAndV (ta tb:TE):TE:=fun σ H Q=>ta σ H fun x H1=>∃ c,x=.bl c∧if c=true then tb σ H1 Q else Q (.bl false) H1
theorem pe_one {op} {t:TE} (h:PE X a t):PE X (.BoolOp op [a] pos) t:=fun pins s σ H Q I hw=>BoolOp_one (h pins s σ H Q I hw)
theorem pe_and (ha:PE X a ta) (hb:PE X (.BoolOp .And (b::rest) pos) tb):PE X (.BoolOp .And (a::b::rest) pos) (tAndV ta tb):=by
 intro pins s σ H Q I h
 refine BoolOp_and (thn (ha pins s σ H _ I h) fun v s1 ⟨x,H1,I1,r1,q1⟩=>?_)
 obtain ⟨c,rfl,q1⟩:=q1
 cases r1
 refine wpAny_truthy_bool ?_
 cases c with
 | true=>exact hb pins s1 σ H1 Q I1 q1
 | false=>exact ⟨.bl false,H1,I1,rfl,q1⟩
end
end L2
namespace L2
open PySem PySem.Spec PyProof.Rows
def SqL (K:PySem.W.Frag) (H:Hp) (a:Addr) (xs:List V):Prop :=
 Rd H a (.lst xs) ∨
  ∃ (o:Obj) (its:Array Value) (n:Nat),K.lookup a=some o∧o.cls=.type "list"∧o.dict=none∧o.data=.seq its n∧its.size≤sizeLine∧Vals xs its.toList
def SqT (K:PySem.W.Frag) (H:Hp) (a:Addr) (xs:List V):Prop :=
 Rd H a (.tup xs) ∨
  ∃ (o:Obj) (its:Array Value) (n:Nat),K.lookup a=some o∧o.cls=.type "tuple"∧o.data=.seq its n∧its.size≤sizeLine∧Vals xs its.toList
def absV:Value→Option V
 | .none=>some .non
 | .bool b=>some (.bl b)
 | .int i _=>some (.int i)
 | .str x _=>some (.str x)
 | .bytes b _=>some (.byt b)
 | .float b _=>some (.flt b)
 | .ref a=>some (.ref a)
 | .type n=>some (.ty n)
 | _=>none
theorem RelV.abs {x:V} {u:Value} (r:RelV x u):absV u=some x:=by
 cases x with
 | non=>cases r;rfl
 | bl _=>cases r;rfl
 | int _=>obtain ⟨t,rfl⟩:=r;rfl
 | str _=>obtain ⟨t,rfl⟩:=r;rfl
 | byt _=>obtain ⟨t,rfl⟩:=r;rfl
 | flt _=>obtain ⟨t,rfl⟩:=r;rfl
 | ref _=>cases r;rfl
 | ty _=>cases r;rfl
theorem RelV.inj {x y:V} {u:Value} (r:RelV x u) (q:RelV y u):x=y:=Option.some.inj (r.abs.symm.trans q.abs)
theorem Vals.inj:∀ {xs ys:List V} {us:List Value},Vals xs us→Vals ys us→xs=ys
 | _,_,_,.nil,.nil=>rfl
 | _,_,_,.cons r t,.cons r' t'=>by rw [r.inj r',Vals.inj t t']
section
variable {X:Cx} {pins:List (Addr × Obj)} {σ:St} {H:Hp} {s:Shared} {a:Addr} {xs ys:List V}
theorem SqL.of {K:PySem.W.Frag} (h:H a=some (.lst xs)):SqL K H a xs:=.inl (.inl h)
theorem SqT.of {K:PySem.W.Frag} (h:H a=some (.tup xs)):SqT K H a xs:=.inl (.inl h)
theorem Inv.list (I:Inv X pins σ H s) (h:SqL X.K H a xs):∃ its:List Value,Vals xs its∧PlainL s.heap a its.toArray∧xs.length≤sizeLine:=by
 rcases h with h | ⟨o,its,n,hk,hc,hd,hs,hz,r⟩
 ·obtain ⟨z,its,n,r,e⟩:=h.ok I.hok
  exact ⟨its,r,⟨_,n,e,rfl,rfl,rfl⟩,z⟩
 ·refine ⟨its.toList,r,⟨o,n,I.kIn a o hk,hc,hd,by simpa using hs⟩,?_⟩
  have e:=r.length
  simp only [Array.length_toList] at e
  omega
theorem Inv.tuple (I:Inv X pins σ H s) (h:SqT X.K H a xs):∃ its:List Value,Vals xs its∧IsTup s.heap a its.toArray∧xs.length≤sizeLine:=by
 rcases h with h | ⟨o,its,n,hk,hc,hs,hz,r⟩
 ·obtain ⟨z,its,r,p⟩:=h.ok I.hok
  exact ⟨its,r,p,z⟩
 ·refine ⟨its.toList,r,⟨o,I.kIn a o hk,hc,n,by simpa using hs⟩,?_⟩
  have e:=r.length
  simp only [Array.length_toList] at e
  omega
theorem Inv.list_inj (I:Inv X pins σ H s) (h:SqL X.K H a xs) (h':SqL X.K H a ys):xs=ys:=by
 obtain ⟨its,r,⟨o,n,e,_,_,d⟩,_⟩:=I.list h
 obtain ⟨its',r',⟨o',n',e',_,_,d'⟩,_⟩:=I.list h'
 rw [e] at e';cases e'
 rw [d] at d'
 injection d' with d1 _
 have:its=its':=by simpa using congrArg Array.toList d1
 subst this
 exact r.inj r'
theorem Inv.tuple_inj (I:Inv X pins σ H s) (h:SqT X.K H a xs) (h':SqT X.K H a ys):xs=ys:=by
 obtain ⟨its,r,⟨o,e,_,n,d⟩,_⟩:=I.tuple h
 obtain ⟨its',r',⟨o',e',_,n',d'⟩,_⟩:=I.tuple h'
 rw [e] at e';cases e'
 rw [d] at d'
 injection d' with d1 _
 have:its=its':=by simpa using congrArg Array.toList d1
 subst this
 exact r.inj r'
end
abbrev Cx.wish (X:Cx) (E:Value→Shared→Prop):Cx:={ X with xe:=E }
abbrev Cx.nox (X:Cx):Cx:=X.wish fun _ _=>False
theorem Cx.Ok.wish {X:Cx} (ok:X.Ok) (E:Value→Shared→Prop):(X.wish E).Ok :=
 ⟨ok.mod,ok.kind,ok.glob,ok.blt,ok.above,ok.inj,ok.has,ok.cab,ok.hd,ok.frames,ok.stk,ok.exf,ok.bs,ok.bsz,ok.noex,ok.exfs,ok.funs,ok.frf⟩
theorem Cx.Ok.unwish {X:Cx} {E:Value→Shared→Prop} (ok:(X.wish E).Ok):X.Ok :=
 ⟨ok.mod,ok.kind,ok.glob,ok.blt,ok.above,ok.inj,ok.has,ok.cab,ok.hd,ok.frames,ok.stk,ok.exf,ok.bs,ok.bsz,ok.noex,ok.exfs,ok.funs,ok.frf⟩
section
variable {X:Cx} {pins:List (Addr × Obj)} {σ:St} {H:Hp} {s:Shared} {E:Value→Shared→Prop}
theorem Inv.wish (I:Inv X pins σ H s) (E:Value→Shared→Prop):Inv (X.wish E) pins σ H s:=⟨I.ok.wish E,I.os,I.bare,I.base,I.loc,I.cell,I.free,I.freeC,I.pin,I.hok,I.len⟩
theorem Inv.unwish (I:Inv (X.wish E) pins σ H s):Inv X pins σ H s:=⟨I.ok.unwish,I.os,I.bare,I.base,I.loc,I.cell,I.free,I.freeC,I.pin,I.hok,I.len⟩
theorem SP.unwish {D:Ends} {f:Flow} {s':Shared} (h:SP (X.wish E) pins D f s'):SP X pins D f s':=by
 cases f with
 | next=>obtain ⟨σ',H',I,q⟩:=h;exact ⟨σ',H',I.unwish,q⟩
 | brk=>obtain ⟨σ',H',I,q⟩:=h;exact ⟨σ',H',I.unwish,q⟩
 | cont=>obtain ⟨σ',H',I,q⟩:=h;exact ⟨σ',H',I.unwish,q⟩
 | ret u=>obtain ⟨v,σ',H',I,r,q⟩:=h;exact ⟨v,σ',H',I.unwish,r,q⟩
theorem PE.nox {e:Expr} {t:TE} (h:PE X.nox e t):PE X e t:=fun pins s σ H Q I hw =>
 wpAny_mono (h pins s σ H Q (I.wish _) hw) (fun _ _ ⟨v,H',I',r,q⟩=>⟨v,H',I'.unwish,r,q⟩) fun _ _ z=>False.elim z
theorem PT.nox {e:Expr} {t:TT} (h:PT X.nox e t):PT X e t:=fun pins s σ H Q I hw =>
 wpAny_mono (h pins s σ H Q (I.wish _) hw) (fun _ _ ⟨H',I',q⟩=>⟨H',I'.unwish,q⟩) fun _ _ z=>False.elim z
theorem PSs.nox {st:List Stmt} {t:TS} (h:PSs X.nox st t):PSs X st t:=fun pins s σ H D I hw =>
 wpAny_mono (h pins s σ H D (I.wish _) hw) (fun _ _ q=>q.unwish) fun _ _ z=>False.elim z
end
section
variable {X:Cx} {st:Stmt} {rest:List Stmt} {t u:TS} {e:Expr} {te:TE} {pos:Pos}
def tNext:TS:=fun D σ H=>D.nx σ H
def tSeq (t u:TS):TS:=fun D σ H=>t { D with nx:=u D } σ H
theorem pss_nil:PSs X [] tNext:=fun _ _ σ H _ I h=>wpAny_execs_nil ⟨σ,H,I,h⟩
theorem pss_cons (h1:PS X st t) (h2:PSs X rest u):PSs X (st::rest) (tSeq t u):=by
 intro pins s σ H D I h
 refine wpAny_execs_cons (thn (h1 pins s σ H { D with nx:=u D } I h) fun f s1 q=>?_)
 cases f with
 | next =>
  obtain ⟨σ',H',I',q⟩:=q
  exact h2 pins s1 σ' H' D I' q
 | ret v=>exact q
 | brk=>exact q
 | cont=>exact q
theorem pss_one (h1:PS X st t):PSs X [st] t:=by
 intro pins s σ H D I h
 refine wpAny_execs_cons (thn (h1 pins s σ H D I h) fun f s1 q=>?_)
 cases f with
 | next=>exact wpAny_execs_nil q
 | ret v=>exact q
 | brk=>exact q
 | cont=>exact q
theorem Inv.quiet {pins:List (Addr × Obj)} {σ:St} {H:Hp} {s:Shared} (I:Inv X pins σ H s):interactive X.env=false:=by simp [interactive,I.ok.kind]
def tDrop (te:TE):TS:=fun D σ H=>te σ H fun _ H1=>D.nx σ H1
theorem ps_expr (he:PE X e te) (hs:swapsWith e none pos.line X.env=pure false:=by rfl):PS X (.Expr e pos) (tDrop te):=by
 intro pins s σ H D I h
 exact wpAny_Expr_any (thn (he pins s σ H _ I h) fun v s1 ⟨x,H1,I1,r1,q1⟩=>⟨σ,H1,I1,q1⟩) I.quiet hs
def tRet (te:TE):TS:=fun D σ H=>te σ H D.rt
theorem ps_ret (he:PE X e te):PS X (.Return (some e) pos) (tRet te):=by
 intro pins s σ H D I h
 exact wpAny_Return_some (thn (he pins s σ H _ I h) fun v s1 ⟨x,H1,I1,r1,q1⟩=>⟨x,σ,H1,I1,r1,q1⟩)
def tIfS (c:TT) (t u:TS):TS:=fun D σ H=>c σ H fun b H1=>if b=true then t D σ H1 else u D σ H1
theorem ps_if {c:Expr} {a b:List Stmt} {tc:TT} (hc:PT X c tc) (ha:PSs X a t) (hb:PSs X b u):PS X (.If c a b pos) (tIfS tc t u):=by
 intro pins s σ H D I h
 refine wpAny_If (thn (hc pins s σ H _ I h) fun d s1 ⟨H1,I1,q1⟩=>?_)
 cases d with
 | true=>exact ha pins s1 σ H1 D I1 q1
 | false=>exact hb pins s1 σ H1 D I1 q1
def tNever:TS:=fun _ _ _=>False
theorem ps_never:PS X st tNever:=fun _ _ _ _ _ _ h=>h.elim
end
abbrev TG:=V→St→Hp→(St→Hp→Prop)→Prop
abbrev TGs:=List V→St→Hp→(St→Hp→Prop)→Prop
def PG (X:Cx) (target:Expr) (t:TG):Prop :=
 ∀ (pins:List (Addr × Obj)) (s:Shared) (σ:St) (H:Hp) (v:V) (u:Value) (Q:St→Hp→Prop),Inv X pins σ H s→RelV v u→t v σ H Q →
  wpAny (model X.prog X.w) X.A (assign target X.env u) (fun _ s'=>∃ σ' H',Inv X pins σ' H' s'∧Q σ' H') X.xe s
def PGs (X:Cx) (ts:List Expr) (t:TGs):Prop :=
 ∀ (pins:List (Addr × Obj)) (s:Shared) (σ:St) (H:Hp) (vs:List V) (us:List Value) (Q:St→Hp→Prop),Inv X pins σ H s→Vals vs us→t vs σ H Q →
  wpAny (model X.prog X.w) X.A (assignInOrder ((assignEach ts X.env).map (·.2)) us) (fun _ s'=>∃ σ' H',Inv X pins σ' H' s'∧Q σ' H') X.xe s
abbrev TSet:=V→V→V→Hp→(Hp→Prop)→Prop
def PSet (X:Cx) (t:TSet):Prop :=
 ∀ (pins:List (Addr × Obj)) (s:Shared) (σ:St) (H:Hp) (o i v:V) (ov iv u:Value) (Q:Hp→Prop),Inv X pins σ H s→RelV o ov→RelV i iv→RelV v u→t o i v H Q →
  wpAny (model X.prog X.w) X.A (setItem ov iv u) (fun _ s'=>∃ H',Inv X pins σ H' s'∧Q H') X.xe s
section
variable {X:Cx} {pos:Pos}
def gName (i:Nat):TG:=fun v σ H Q=>Q (σ.set i (some v)) H
theorem pg_name {i:Nat} {x:Str} (hN:X.N.Nodup) (hi:X.N[i]?=some x) (hx:Loc X.env.scope x) (hf:X.fn x=true∨X.env.scope.names.lookup x=some .local:=by first | exact .inl rfl | exact .inr rfl | assumption):PG X (.Name x pos) (gName i):=by
 intro pins s σ H v u Q I r h
 exact wpAny_assign_Name (store_ok I hN hi hx r (fun s' I'=>⟨_,H,I',h⟩) hf)
def gNil:TGs:=fun vs σ H Q=>vs=[]∧Q σ H
def gCons (t:TG) (u:TGs):TGs:=fun vs σ H Q=>∃ v r,vs=v::r∧t v σ H fun σ' H'=>u r σ' H' Q
theorem pgs_nil:PGs X [] gNil:=by
 intro pins s σ H vs us Q I r h
 obtain ⟨e,h⟩:=h
 subst e
 cases r
 exact assignInOrder_nil ⟨σ,H,I,h⟩
theorem pgs_cons {e:Expr} {es:List Expr} {t:TG} {u:TGs} (h1:PG X e t) (h2:PGs X es u)
  (hs:(assignEach (e::es) X.env).map (·.2)=assign e X.env::(assignEach es X.env).map (·.2):=by rfl):PGs X (e::es) (gCons t u):=by
 intro pins s σ H vs us Q I r h
 obtain ⟨v,vr,e1,h⟩:=h
 subst e1
 cases r with
 | cons r rr =>
  rw [hs]
  refine assignInOrder_cons (thn (h1 pins s σ H _ _ _ I r h) fun _ s1 ⟨σ1,H1,I1,q1⟩=>?_)
  exact h2 pins s1 σ1 H1 _ _ Q I1 rr q1
def gTup (K:PySem.W.Frag) (n:Nat) (t:TGs):TG:=fun v σ H Q=>∃ a xs,v=.ref a∧SqT K H a xs∧xs.length=n∧t xs σ H Q
theorem pg_tup {es:List Expr} {k:Nat} {t:TGs} {n:Nat} (hc:X.calm=true) (h:PGs X es t)
  (hn:(assignEach es X.env).length=n:=by rfl) (hst:(assignEach es X.env).findIdx? (·.1)=none:=by rfl):PG X (.Tuple es k pos) (gTup X.K n t):=by
 intro pins s σ H v u Q I r hw
 obtain ⟨a,xs,e1,hq,hl,hw⟩:=hw
 subst e1
 cases r
 obtain ⟨its,rv,ht,hz⟩:=I.tuple hq
 refine assign_Tuple_tuple (I.ok.hd hc) ht (by simp [hn,← hl,rv.length]) hst fun h' hx=>?_
 have I1:Inv X pins σ H { s with heap:=h' }:=I.kept (t':=s.toks) fun b o e=>hx b o (Nat.ne_of_lt (Heap.lt_size e)) e
 exact h pins _ σ H xs _ Q I1 (by simpa using rv) hw
def gSub (to ti:TE) (t:TSet):TG:=fun v σ H Q=>to σ H fun o H1=>ti σ H1 fun i H2=>t o i v H2 fun H3=>Q σ H3
theorem pg_sub {o i:Expr} {to ti:TE} {t:TSet} (ho:PE X o to) (hi:PE X i ti) (hs:PSet X t)
  (ha:∀ v,assign (.Subscript o i pos) X.env v=(do
   let ov ← holding [v] (eval o X.env)
   let iv ← holding [v,ov] (eval i X.env)
   standAt pos
   holding [v,ov,iv] (setItem ov iv v)
   release [v,ov,iv] []):=by intro _;rfl):PG X (.Subscript o i pos) (gSub to ti t):=by
 intro pins s σ H v u Q I r h
 rw [ha]
 refine wpAny_bind (wpAny_holding (thn (ho pins s σ H _ I h) fun ov s1 ⟨x,H1,I1,r1,q1⟩=>?_))
 refine wpAny_bind (wpAny_holding (thn (hi pins s1 σ H1 _ I1 q1) fun iv s2 ⟨y,H2,I2,r2,q2⟩=>?_))
 refine wpAny_bind (wpAny_standAt (wpAny_bind (wpAny_holding (thn (hs pins s2 σ H2 x y v ov iv u _ I2 r1 r2 r q2) fun _ s3 ⟨H3,I3,q3⟩=>?_))))
 exact wpAny_release ⟨σ,H3,I3,q3⟩
def tAsg (te:TE) (g:TG):TS:=fun D σ H=>te σ H fun x H1=>g x σ H1 D.nx
theorem ps_asg {tg e:Expr} {te:TE} {g:TG} (he:PE X e te) (hg:PG X tg g) (hs:swapsWithSole [tg] e pos.line X.env=pure false:=by rfl) (hw:swappedStores [tg] e X.env=pure none:=by rfl)
  (h1:(assignEach [tg] X.env).map (·.2)=[assign tg X.env]:=by rfl):PS X (.Assign [tg] e pos) (tAsg te g):=by
 intro pins s σ H D I h
 refine wpAny_Assign_stores (thn (he pins s σ H _ I h) fun v s1 ⟨x,H1,I1,r1,q1⟩=>?_) hs hw
 rw [h1]
 exact thn (hg pins s1 σ H1 x v _ I1 r1 q1) fun _ s2 q=>q
theorem ps_set {i:Nat} {x:Str} {e:Expr} {te:TE} {pos':Pos} (hN:X.N.Nodup) (hi:X.N[i]?=some x) (hx:Loc X.env.scope x) (he:PE X e te) (hs:swapsWith e (some (.Name x pos')) pos.line X.env=pure false:=by rfl) (hf:X.fn x=true∨X.env.scope.names.lookup x=some .local:=by first | exact .inl rfl | exact .inr rfl | assumption) :
  PS X (.Assign [.Name x pos'] e pos) (tAsg te (gName i)):=by
 intro pins s σ H D I h
 refine wpAny_Assign_Name (thn (he pins s σ H _ I h) fun v s1 ⟨y,H1,I1,r1,q1⟩=>?_) hs
 exact store_ok I1 hN hi hx r1 (fun s2 I2=>⟨_,H1,I2,q1⟩) hf
end
section
variable {X:Cx} {pos:Pos}
def tWhile (c:TT) (tb:TS):TS:=fun D σ H=>∃ W:Nat→St→Hp→Prop,(∃ m,W m σ H)∧∀ m σ H,W m σ H →
 c σ H fun b H1=>if b=true then ∃ N:St→Hp→Prop,(∀ σ' H',N σ' H'→∃ m',m' < m∧W m' σ' H')∧tb { D with nx:=N,ct:=N,bk:=D.nx } σ H1 else D.nx σ H1
theorem ps_while {c:Expr} {body:List Stmt} {tc:TT} {tb:TS} (hp:PassesOwn (model X.prog X.w) X.A X.env X.xe) (hc:PT X c tc) (hb:PSs X body tb):PS X (.While c body [] pos) (tWhile tc tb):=by
 intro pins s σ H D I h
 obtain ⟨W,⟨m0,w0⟩,turn⟩:=h
 refine wpAny_While (codeAny_whileLoop (fun n s'=>∃ σ' H',Inv X pins σ' H' s'∧W n σ' H') ?_ m0 ⟨σ,H,I,w0⟩)
 rintro n s1 ⟨σ1,H1,I1,w1⟩
 refine wpAny_passesOwn hp (thn (hc pins s1 σ1 H1 _ I1 (turn n σ1 H1 w1)) fun b s2 ⟨H2,I2,q2⟩=>?_)
 cases b with
 | true =>
  obtain ⟨N,hN,q2⟩:=q2
  rw [if_pos rfl]
  refine wpAny_passesOwn hp (thn (hb pins s2 σ1 H2 _ I2 q2) fun f s3 q3=>?_)
  cases f with
  | next =>
   obtain ⟨σ3,H3,I3,n3⟩:=q3
   obtain ⟨m',hm,w3⟩:=hN σ3 H3 n3
   exact ⟨m',hm,σ3,H3,I3,w3⟩
  | cont =>
   obtain ⟨σ3,H3,I3,n3⟩:=q3
   obtain ⟨m',hm,w3⟩:=hN σ3 H3 n3
   exact ⟨m',hm,σ3,H3,I3,w3⟩
  | brk=>exact q3
  | ret v=>exact q3
 | false =>
  rw [if_neg Bool.false_ne_true]
  exact wpAny_execs_nil ⟨σ1,H2,I2,q2⟩
end
structure It where
 go:Nat→Hp→Prop
 yld:Nat→Hp→V→Hp→Prop
 stop:Nat→Hp→Prop
def FpOk (X:Cx) (pins:List (Addr × Obj)) (H:Hp) (b:Addr):Prop :=
 H b=none∧b≠X.env.locals∧b ∉ X.fs∧(b ∈ X.ex∨X.s₀.heap.objs.size≤b)∧(∀ x c,X.env.cells.lookup x=some c→c≠b)∧∀ p ∈ X.pn++pins,p.1≠b
theorem Inv.fpOk {X:Cx} {pins:List (Addr × Obj)} {σ:St} {H H':Hp} {s:Shared} {b:Addr} (I:Inv X pins σ H s) (hb:s.heap.objs.size≤b) (hn:H' b=none):FpOk X pins H' b:=by
 refine ⟨hn,Nat.ne_of_gt (Nat.lt_of_lt_of_le I.lt hb),I.nofs hb,.inr (Nat.le_trans I.sz hb),fun x c e z=>?_,fun p hp z=>?_⟩
 ·obtain ⟨v,q⟩:=I.cell x c e
  exact absurd (Nat.lt_of_lt_of_le q.lt (by rw [z];exact hb)) (Nat.lt_irrefl _)
 ·exact absurd (Nat.lt_of_lt_of_le (Heap.lt_size (I.pin p hp).1) (by rw [z];exact hb)) (Nat.lt_irrefl _)
structure Turn (P:Program) (w:World) (K:PySem.W.Frag) (tg:Expr) (J:It) (fp:List Addr) (it:Addr) (tn:Nat→Heap→Prop):Prop where
 mem:it ∈ fp
 obj:∀ i h,tn i h→∀ b ∈ fp,∃ o,h.get? b=some o∧∀ v,o.data≠.cell v
 keep:∀ i h h',tn i h→(∀ b ∈ fp,∀ o,h.get? b=some o→h'.get? b=some o)→tn i h'
 item:∀ (X:Cx),X.prog=P→X.w=w→X.K=K→X.calm=true→∀ (i:Nat) (pins:List (Addr × Obj)) (s:Shared) (σ:St) (H:Hp) (E:Value→Shared→Prop),Inv X pins σ H s→(∀ b ∈ fp,FpOk X pins H b)→tn i s.heap→J.go i H →
  wpAny (model P w) X.A (pyNext (.ref it)) (fun r s1=>∃ u,r=some u ∧
   wpAny (model P w) X.A (letOwnedTupleGo tg (.ref it) u) (fun _ s2=>∃ x H',Inv X pins σ H' s2∧RelV x u∧J.yld i H x H'∧tn (i + 1) s2.heap∧∀ b ∈ fp,H' b=none) E s1) E s
 done:∀ (X:Cx),X.prog=P→X.w=w→X.K=K→X.calm=true→∀ (i:Nat) (pins:List (Addr × Obj)) (s:Shared) (σ:St) (H:Hp) (E:Value→Shared→Prop),Inv X pins σ H s→(∀ b ∈ fp,FpOk X pins H b)→tn i s.heap→J.stop i H →
  wpAny (model P w) X.A (pyNext (.ref it)) (fun r s1=>r=none∧Inv X pins σ H s1) E s
 self:∀ (A:Around) (i:Nat) (s:Shared) (Q:Value→Shared→Prop) (E:Value→Shared→Prop),tn i s.heap→Q (.ref it) s→wpAny (model P w) A (pyIter (.ref it)) Q E s
abbrev TI:=St→Hp→(It→Hp→Prop)→Prop
def PIE (X:Cx) (pins:List (Addr × Obj)) (σ:St) (tg:Expr) (R:It→Hp→Prop) (itv:Value) (s2:Shared):Prop :=
 ∃ (it:Addr) (fp:List Addr) (tn:Nat→Heap→Prop) (J:It) (H':Hp),itv=.ref it∧Inv X pins σ H' s2∧Turn X.prog X.w X.K tg J fp it tn∧tn 0 s2.heap∧(∀ b ∈ fp,FpOk X pins H' b)∧R J H'
def PI (X:Cx) (tg iter:Expr) (wi:TI):Prop :=
 ∀ (pins:List (Addr × Obj)) (s:Shared) (σ:St) (H:Hp) (R:It→Hp→Prop),Inv X pins σ H s→wi σ H R →
  wpAny (model X.prog X.w) X.A (eval iter X.env) (fun v s1=>wpAny (model X.prog X.w) X.A (pyIter v) (PIE X pins σ tg R) X.xe s1) X.xe s
theorem go_of {M : Model} {A : Around} {E : Value → Shared → Prop} {s : Shared} {tg : Expr} {it : Addr} {u : Value} {o : Obj} {n : String} {vs : Array Value} {Q : Unit → Shared → Prop} (ho : s.heap.get? it = some o) (hc : o.cls = .type n) (hd : o.data = .fields vs)
    (hn : ["enumerate", "zip", "dict_itemiterator", "dict_reverseitemiterator", "odict_iterator", "itertools.zip_longest", "itertools.pairwise"].contains n = false) (hQ : Q () s) : wpAny M A (letOwnedTupleGo tg (.ref it) u) Q E s := by
  unfold letOwnedTupleGo
  cases tg <;> first
    | exact wpAny_pure hQ
    | (cases u <;> first
        | exact wpAny_pure hQ
        | (refine wpAny_bind (wpAny_load ho ?_)
           rw [hc, hd]
           show wpAny M A (if (["enumerate", "zip", "dict_itemiterator", "dict_reverseitemiterator", "odict_iterator", "itertools.zip_longest", "itertools.pairwise"].contains n && vs[0]? == some (rawInt _)) = true then _ else _) Q E s
           rw [if_neg (by intro h; rw [hn, Bool.false_and] at h; cases h)]
           exact wpAny_pure hQ))
def Itl (K:PySem.W.Frag) (a:Addr):It :=
 ⟨fun i H=>∃ xs x,SqL K H a xs∧xs[i]?=some x,fun i H x H'=>H'=H∧∀ xs,SqL K H a xs→xs[i]?=some x,fun i H=>∃ xs,SqL K H a xs∧xs.length≤i⟩
def Itt (K:PySem.W.Frag) (a:Addr):It :=
 ⟨fun i H=>∃ xs x,SqT K H a xs∧xs[i]?=some x,fun i H x H'=>H'=H∧∀ xs,SqT K H a xs→xs[i]?=some x,fun i H=>∃ xs,SqT K H a xs∧xs.length≤i⟩
def Itr (lo:Int) (n:Nat):It:=⟨fun i _=>i < n,fun i H x H'=>H'=H∧x=.int (lo + i),fun i _=>n≤i⟩
theorem turn_list {P:Program} {w:World} {K:PySem.W.Frag} {tg:Expr} (a it:Addr):Turn P w K tg (Itl K a) [it] it (fun i h=>h.IsListIter it a i) where
 mem:=by simp
 obj:=fun i h st b hb=>by
  have e:b=it:=by simpa using hb
  subst e
  obtain ⟨o,e,c,d⟩:=st
  exact ⟨o,e,fun v z=>by rw [d] at z;cases z⟩
 keep:=fun i h h' st k=>st.at fun o e=>k it (by simp) o e
 item:=by
  intro X hP hw hK hc i pins s σ H E I hf st hg
  subst hP hw hK
  obtain ⟨xs,x,hq,hx⟩:=hg
  obtain ⟨its,rv,p,hz⟩:=I.list hq
  obtain ⟨u,hu,ru⟩:=rv.get hx
  obtain ⟨f0,f1,f2,f3,f4,f5⟩:=hf it (by simp)
  refine wpAny_pyNext_list_item st p.isList (x:=u) (by simpa using hu) fun h' st' sb=>?_
  have I1:Inv X pins σ H { s with heap:=h' }:=I.turned (t':=s.toks) (fun b o hb e=>(sb.2 b hb).trans e) f0 f1 f3 f4 f5
  obtain ⟨o,e,c,d⟩:=id st'
  exact ⟨u,rfl,go_of (s:={ s with heap:=h' }) e c d (by decide) ⟨x,H,I1,ru,⟨rfl,fun ys hy=>by rw [I.list_inj hy hq];exact hx⟩,st',fun b hb=>(hf b hb).1⟩⟩
 done:=by
  intro X hP hw hK hc i pins s σ H E I hf st hg
  subst hP hw hK
  obtain ⟨xs,hq,hx⟩:=hg
  obtain ⟨its,rv,p,hz⟩:=I.list hq
  obtain ⟨f0,f1,f2,f3,f4,f5⟩:=hf it (by simp)
  have hl:=rv.length
  exact wpAny_pyNext_list_end (I.ok.hd hc) st p.isList (by simp;omega) fun h' eb=>⟨rfl,I.turned (t':=s.toks) (fun b o hb e=>eb b o hb e) f0 f1 f3 f4 f5⟩
 self:=fun _ _ _ _ _ st h=>wpAny_pyIter_listiter st h
theorem turn_tuple {P:Program} {w:World} {K:PySem.W.Frag} {tg:Expr} (a it:Addr):Turn P w K tg (Itt K a) [it] it (fun i h=>h.IsTupleIter it a i) where
 mem:=by simp
 obj:=fun i h st b hb=>by
  have e:b=it:=by simpa using hb
  subst e
  obtain ⟨o,e,c,d⟩:=st
  exact ⟨o,e,fun v z=>by rw [d] at z;cases z⟩
 keep:=fun i h h' st k=>st.at fun o e=>k it (by simp) o e
 item:=by
  intro X hP hw hK hc i pins s σ H E I hf st hg
  subst hP hw hK
  obtain ⟨xs,x,hq,hx⟩:=hg
  obtain ⟨its,rv,p,hz⟩:=I.tuple hq
  obtain ⟨u,hu,ru⟩:=rv.get hx
  obtain ⟨f0,f1,f2,f3,f4,f5⟩:=hf it (by simp)
  refine wpAny_pyNext_tuple_item st (show s.heap.IsTuple a its.toArray from p) (x:=u) (by simpa using hu) fun h' st' sb=>?_
  have I1:Inv X pins σ H { s with heap:=h' }:=I.turned (t':=s.toks) (fun b o hb e=>(sb.2 b hb).trans e) f0 f1 f3 f4 f5
  obtain ⟨o,e,c,d⟩:=id st'
  exact ⟨u,rfl,go_of (s:={ s with heap:=h' }) e c d (by decide) ⟨x,H,I1,ru,⟨rfl,fun ys hy=>by rw [I.tuple_inj hy hq];exact hx⟩,st',fun b hb=>(hf b hb).1⟩⟩
 done:=by
  intro X hP hw hK hc i pins s σ H E I hf st hg
  subst hP hw hK
  obtain ⟨xs,hq,hx⟩:=hg
  obtain ⟨its,rv,p,hz⟩:=I.tuple hq
  obtain ⟨f0,f1,f2,f3,f4,f5⟩:=hf it (by simp)
  have hl:=rv.length
  exact wpAny_pyNext_tuple_end (I.ok.hd hc) st (show s.heap.IsTuple a its.toArray from p) (by simp;omega) fun h' eb=>⟨rfl,I.turned (t':=s.toks) (fun b o hb e=>eb b o hb e) f0 f1 f3 f4 f5⟩
 self:=fun _ _ _ _ _ st h=>wpAny_pyIter_tupleiter st h
theorem turn_range {P:Program} {w:World} {K:PySem.W.Frag} {tg:Expr} (it:Addr) (lo:Int) (n:Nat):Turn P w K tg (Itr lo n) [it] it (fun i h=>IsRangeIter h it (lo + (i:Nat) * 1) ((n:Int) - (i:Nat)) 1) where
 mem:=by simp
 obj:=fun i h st b hb=>by
  have e:b=it:=by simpa using hb
  subst e
  exact ⟨_,st,fun v z=>by
   have z':Data.fields _=Data.cell v:=z
   cases z'⟩
 keep:=fun i h h' st k=>k it (by simp) _ st
 item:=by
  intro X hP hw hK hc i pins s σ H E I hf st hg
  subst hP hw hK
  obtain ⟨f0,f1,f2,f3,f4,f5⟩:=hf it (by simp)
  have W:=Walks.range (prog:=X.prog) (w:=X.w) (I.ok.hd hc) it lo 1 n
  refine W.item i s _ _ hg st fun v h' tk hv st' kk=>?_
  obtain ⟨t,rfl⟩:=hv
  have I1:Inv X pins σ H { s with heap:=h',toks:=tk }:=I.turned (fun b o hb e=>kk b o (by simpa using hb) e) f0 f1 f3 f4 f5
  refine ⟨_,rfl,go_of (s:={ s with heap:=h',toks:=tk }) (n:="range_iterator") st' rfl rfl (by decide) ⟨.int (lo + i),H,I1,⟨t,?_⟩,⟨rfl,rfl⟩,st',fun b hb=>(hf b hb).1⟩⟩
  rw [Int.mul_one]
 done:=by
  intro X hP hw hK hc i pins s σ H E I hf st hg
  subst hP hw hK
  obtain ⟨f0,f1,f2,f3,f4,f5⟩:=hf it (by simp)
  exact wpAny_pyNext_range_end (I.ok.hd hc) st (by have:n≤i:=hg;omega) fun h' eb=>⟨rfl,I.turned (t':=s.toks) (fun b o hb e=>eb b o hb e) f0 f1 f3 f4 f5⟩
 self:=fun _ _ _ _ _ st h=>wpAny_pyIter_rangeiter st h
end L2
namespace L2
open PySem PySem.Spec PyProof.Rows
section
variable {X:Cx} {tg:Expr}
theorem range_it {pins:List (Addr × Obj)} {σ:St} {H:Hp} {s:Shared} {R:It→Hp→Prop} {E:Value→Shared→Prop} {lo hi:Int} {t u v:Tok} {tk:Nat} (I:Inv X pins σ H s) (h1:-(2 ^ 62)≤lo) (h2:lo < 2 ^ 62) (h3:-(2 ^ 62)≤hi) (h4:hi < 2 ^ 62)
  (q:R (Itr lo (hi - lo).toNat) H):wpAny (model X.prog X.w) X.A (pyIter (.ref s.heap.objs.size)) (PIE X pins σ tg R) E { s with heap:=s.heap.push { cls:=.type "range",data:=.fields #[.int lo t,.int hi u,.int 1 v] },toks:=tk }:=by
 refine wpAny_pyIter_range (IsRange.new ..) (small_one h1 h2 h3 h4) ?_
 have I1:Inv X pins σ H { s with heap:=s.heap.push { cls:=.type "range",data:=.fields #[.int lo t,.int hi u,.int 1 v] },toks:=tk }:=I.kept fun b o e=>Heap.get?_push_of_some _ e
 refine ⟨(s.heap.push { cls:=.type "range",data:=.fields #[.int lo t,.int hi u,.int 1 v] }).objs.size,[(s.heap.push { cls:=.type "range",data:=.fields #[.int lo t,.int hi u,.int 1 v] }).objs.size],_,_,H,rfl,
  I1.kept (t':=tk) fun b o e=>Heap.get?_push_of_some _ e,turn_range _ lo (hi - lo).toNat,?_,fun b hb=>?_,q⟩
 ·have e1:lo + ((0:Nat):Int) * 1=lo:=by simp
  have e2:(((hi - lo).toNat:Nat):Int) - ((0:Nat):Int)=Builtin.Range.rangeSize lo hi 1:=by rw [rangeSize_one];split <;> omega
  show IsRangeIter _ _ (lo + ((0:Nat):Int) * 1) ((((hi - lo).toNat:Nat):Int) - ((0:Nat):Int)) 1
  rw [e1,e2]
  exact Heap.get?_push_size _ rfl
 ·have e:b=(s.heap.push { cls:=.type "range",data:=.fields #[.int lo t,.int hi u,.int 1 v] }).objs.size:=by simpa using hb
  subst e
  exact I1.fpOk (Nat.le_refl _) (I1.hok.fresh (Nat.le_refl _))
def iRng1 (ta:TA):TI:=fun σ H R=>ta σ H fun vs H1=>∃ j:Int,vs=[.int j]∧-(2 ^ 62)≤j∧j < 2 ^ 62∧R (Itr 0 j.toNat) H1
theorem pi_range1 {a:Expr} {ta:TA} {p pos:Pos} (hg:Gl X "range") (hm:X.mg "range"=none) (ha:PA X [a] ta) (hs:starEach [a] X.env=[(false,eval a X.env)]:=by rfl):PI X tg (.Call (.Name "range" p) [a] [] pos) (iRng1 ta):=by
 intro pins s σ H R I h
 refine Call_ (ld_blt I hg hm boot_range (PyProof.Rows.callWith_type1 (thn (ha pos pins s σ H _ I h) fun us s1 ⟨vs,H1,I1,r1,q1⟩=>?_) hs rfl))
 obtain ⟨j,e,q1,q2,q⟩:=q1
 subst e
 cases r1 with
 | cons r rr =>
  cases rr
  obtain ⟨t,rfl⟩:=r
  exact call_range_1 (range_it I1 (by omega) (by omega) q1 q2 (by simpa using q))
def tFor (wi:TI) (g:TG) (tb:TS):TS:=fun D σ H=>wi σ H fun J H1=>∃ W:Nat→Nat→St→Hp→Prop,(∃ m,W 0 m σ H1)∧∀ i m σ H,W i m σ H →
 (J.stop i H∧D.nx σ H)∨(J.go i H∧∃ N:St→Hp→Prop,(∀ σ' H',N σ' H'→∃ m',m' < m∧W (i + 1) m' σ' H')∧∀ x H',J.yld i H x H'→g x σ H' fun σ2 H2=>tb { D with nx:=N,ct:=N,bk:=D.nx } σ2 H2)
def pinsAt (fp:List Addr) (h:Heap):List (Addr × Obj):=fp.filterMap fun b=>(h.get? b).map fun o=>(b,o)
theorem mem_pinsAt {fp:List Addr} {h:Heap} {b:Addr} {o:Obj} (hb:b ∈ fp) (e:h.get? b=some o):(b,o) ∈ pinsAt fp h:=List.mem_filterMap.mpr ⟨b,hb,by rw [e];rfl⟩
theorem of_pinsAt {fp:List Addr} {h:Heap} {p:Addr × Obj} (hp:p ∈ pinsAt fp h):p.1 ∈ fp∧h.get? p.1=some p.2:=by
 obtain ⟨b,hb,e⟩:=List.mem_filterMap.mp hp
 cases q:h.get? b with
 | none=>rw [q] at e;cases e
 | some o =>
  rw [q] at e
  have e':(b,o)=p:=Option.some.inj e
  subst e'
  exact ⟨hb,q⟩
theorem Inv.pinned {pins:List (Addr × Obj)} {σ:St} {H:Hp} {s:Shared} {fp:List Addr} (I:Inv X pins σ H s) (hf:∀ b ∈ fp,FpOk X pins H b) (ho:∀ b ∈ fp,∃ o,s.heap.get? b=some o∧∀ v,o.data≠.cell v):Inv X (pins++pinsAt fp s.heap) σ H s :=
 I.pins_of fun p hp=>(List.mem_append.mp hp).elim (fun z=>I.pin p (List.mem_append_right _ z)) fun z=>by
  obtain ⟨hb,e⟩:=of_pinsAt z
  obtain ⟨f0,f1,f2,_⟩:=hf p.1 hb
  obtain ⟨o,e',d⟩:=ho p.1 hb
  rw [e] at e';cases e'
  exact ⟨e,f0,f1,f2,d⟩
theorem Inv.unpinned {pins pl:List (Addr × Obj)} {σ:St} {H:Hp} {s:Shared} (I:Inv X (pins++pl) σ H s):Inv X pins σ H s:=I.pins_of fun p hp=>I.pin p (List.mem_append_right _ (List.mem_append_left _ hp))
theorem ps_for {iter:Expr} {body:List Stmt} {wi:TI} {g:TG} {tb:TS} {pos:Pos} (hp:PassesOwn (model X.prog X.w) X.A X.env X.xe) (hc:X.calm=true) (hi:PI X tg iter wi) (hg:PG X tg g) (hb:PSs X body tb)
  (hs:∀ x,foldedSetIterable iter X.env x=pure x:=by intro _;rfl):PS X (.For tg iter body [] pos) (tFor wi g tb):=by
 intro pins s σ H D I h
 refine wpAny_For (thn (hi pins s σ H _ I h) fun v s1 h1=>thn h1 fun itv s2 h2=>?_) hs
 obtain ⟨it,fp,tn,J,H2,e,I2,T,st2,f2,W,⟨m0,w0⟩,turn⟩:=h2
 subst e
 have stat:∀ {H':Hp},(∀ b ∈ fp,H' b=none)→∀ b ∈ fp,FpOk X pins H' b:=fun hn b hb=>⟨hn b hb,(f2 b hb).2⟩
 refine codeAny_forLoop_any (fun n s'=>∃ i σ' H',Inv X pins σ' H' s'∧tn i s'.heap∧(∀ b ∈ fp,H' b=none)∧W i n σ' H') ?_ m0 ⟨0,σ,H2,I2,st2,fun b hb=>(f2 b hb).1,w0⟩
 rintro n s3 ⟨i,σ3,H3,I3,st3,fr3,w3⟩
 rcases turn i n σ3 H3 w3 with ⟨stop,qn⟩ | ⟨go,N,hN,step⟩
 ·refine wpAny_passesOwn hp (thn (T.done X rfl rfl rfl hc i pins s3 σ3 H3 X.xe I3 (stat fr3) st3 stop) fun r s4 ⟨hr,I4⟩=>?_)
  subst hr
  exact wpAny_execs_nil ⟨σ3,H3,I4,qn⟩
 ·refine wpAny_passesOwn hp (thn (T.item X rfl rfl rfl hc i pins s3 σ3 H3 X.xe I3 (stat fr3) st3 go) fun r s4 ⟨u,hr,h4⟩=>?_)
  subst hr
  refine wpAny_passesOwn hp (thn h4 fun _ s5 ⟨x,H5,I5,r5,y5,st5,fr5⟩=>?_)
  have I5':=I5.pinned (stat fr5) (T.obj _ _ st5)
  refine wpAny_passesOwn hp (thn (hg _ s5 σ3 H5 x u _ I5' r5 (step x H5 y5)) fun _ s6 ⟨σ6,H6,I6,q6⟩=>?_)
  refine wpAny_passesOwn hp (thn (hb _ s6 σ6 H6 _ I6 q6) fun f s7 q7=>?_)
  have again:∀ {σ7:St} {H7:Hp},Inv X (pins++pinsAt fp s5.heap) σ7 H7 s7→N σ7 H7→∃ m,m < n∧∃ i σ' H',Inv X pins σ' H' s7∧tn i s7.heap∧(∀ b ∈ fp,H' b=none)∧W i m σ' H':=fun {σ7 H7} I7 n7=>by
   obtain ⟨m',hm,w7⟩:=hN σ7 H7 n7
   refine ⟨m',hm,i + 1,σ7,H7,I7.unpinned,T.keep _ _ _ st5 fun b hb o e=>(I7.pin (b,o) (List.mem_append_right _ (List.mem_append_right _ (mem_pinsAt hb e)))).1,fun b hb=>?_,w7⟩
   obtain ⟨o,e,d⟩:=T.obj _ _ st5 b hb
   exact (I7.pin (b,o) (List.mem_append_right _ (List.mem_append_right _ (mem_pinsAt hb e)))).2.1
  cases f with
  | next=>obtain ⟨σ7,H7,I7,n7⟩:=q7;exact again I7 n7
  | cont=>obtain ⟨σ7,H7,I7,n7⟩:=q7;exact again I7 n7
  | brk=>obtain ⟨σ7,H7,I7,q7⟩:=q7;exact ⟨σ7,H7,I7.unpinned,q7⟩
  | ret v=>obtain ⟨x7,σ7,H7,I7,r7,q7⟩:=q7;exact ⟨x7,σ7,H7,I7.unpinned,r7,q7⟩
end
end L2
namespace L2
open PySem PySem.Spec PyProof.Rows
abbrev R2:=V→V→Hp→VK→Prop
def OpR (X:Cx) (f:Value→Value→Sem Value) (r:R2):Prop :=
 ∀ (pins:List (Addr × Obj)) (s:Shared) (σ:St) (H:Hp) (x y:V) (v u:Value) (Q:VK),Inv X pins σ H s→RelV x v→RelV y u→r x y H Q →
  wpAny (model X.prog X.w) X.A (f v u) (EP X pins σ Q) X.xe s
def CallR (X:Cx) (f:Value) (r:List V→Hp→VK→Prop):Prop :=
 ∀ (pins:List (Addr × Obj)) (s:Shared) (σ:St) (H:Hp) (xs:List V) (us:List Value) (Q:VK),Inv X pins σ H s→Vals xs us→r xs H Q →
  wpAny (model X.prog X.w) X.A (call f us) (EP X pins σ Q) X.xe s
def tOp (r:R2) (ta tb:TE):TE:=fun σ H Q=>ta σ H fun x H1=>tb σ H1 fun y H2=>r x y H2 Q
def rI (C:Int→Int→Prop) (g:Int→Int→V):R2:=fun x y H Q=>∃ i j,x=.int i∧y=.int j∧C i j∧Q (g i j) H
def rI0 (g:Int→Int→V):R2:=fun x y H Q=>∃ i j,x=.int i∧y=.int j∧Q (g i j) H
section
variable {X:Cx} {a b c:Expr} {ta tb tc:TE} {pos:Pos}
theorem binT (ha:PE X a ta) (hb:PE X b tb) {pins:List (Addr × Obj)} {s:Shared} {σ:St} {H:Hp} {R:V→V→Hp→Prop} (I:Inv X pins σ H s)
  (h:ta σ H fun x H1=>tb σ H1 fun y H2=>R x y H2) {Q:Value→Shared→Prop} {f:Value→Value→Sem Value}
  (hf:∀ v u s2 x y H2,Inv X pins σ H2 s2→RelV x v→RelV y u→R x y H2→wpAny (model X.prog X.w) X.A (f v u) Q X.xe s2) :
  wpAny (model X.prog X.w) X.A (eval a X.env) (fun v s₁=>wpAny (model X.prog X.w) X.A (eval b X.env) (fun u s₂=>wpAny (model X.prog X.w) X.A (f v u) Q X.xe s₂) X.xe s₁) X.xe s:=by
 refine thn (ha pins s σ H _ I h) fun v s1 ⟨x,H1,I1,r1,q1⟩=>?_
 refine thn (hb pins s1 σ H1 _ I1 q1) fun u s2 ⟨y,H2,I2,r2,q2⟩=>?_
 exact hf v u s2 x y H2 I2 r1 r2 q2
theorem pe_op {op:Operator} {r:R2} (ho:OpR X (binaryOp op) r) (ha:PE X a ta) (hb:PE X b tb):PE X (.BinOp a op b pos) (tOp r ta tb):=by
 intro pins s σ H Q I h
 exact wpAny_BinOp (binT ha hb I h fun v u s2 x y H2 I2 rx ry q=>ho pins s2 σ H2 x y v u Q I2 rx ry q)
theorem opI {f:Value→Value→Sem Value} {C:Int→Int→Prop} {g:Int→Int→Int}
  (rule:∀ (i j:Int) (t u:Tok) (s:Shared) (Q:Value→Shared→Prop) (E:Value→Shared→Prop),C i j→Q (.int (g i j) s.toks) { s with toks:=s.toks + 1 }→wpAny (model X.prog X.w) X.A (f (.int i t) (.int j u)) Q E s) :
  OpR X f (rI C fun i j=>.int (g i j)):=by
 intro pins s σ H x y v u Q I rx ry h
 obtain ⟨i,j,rfl,rfl,hc,q⟩:=h
 obtain ⟨t,rfl⟩:=rx
 obtain ⟨t',rfl⟩:=ry
 exact rule i j t t' s _ _ hc ⟨.int (g i j),H,I.tok _,⟨_,rfl⟩,q⟩
theorem opI0 {f:Value→Value→Sem Value} {g:Int→Int→Int}
  (rule:∀ (i j:Int) (t u:Tok) (s:Shared) (Q:Value→Shared→Prop) (E:Value→Shared→Prop),Q (.int (g i j) s.toks) { s with toks:=s.toks + 1 }→wpAny (model X.prog X.w) X.A (f (.int i t) (.int j u)) Q E s) :
  OpR X f (rI0 fun i j=>.int (g i j)):=by
 intro pins s σ H x y v u Q I rx ry h
 obtain ⟨i,j,rfl,rfl,q⟩:=h
 obtain ⟨t,rfl⟩:=rx
 obtain ⟨t',rfl⟩:=ry
 exact rule i j t t' s _ _ ⟨.int (g i j),H,I.tok _,⟨_,rfl⟩,q⟩
theorem opB0 {f:Value→Value→Sem Value} {g:Int→Int→Bool}
  (rule:∀ (i j:Int) (t u:Tok) (s:Shared) (Q:Value→Shared→Prop) (E:Value→Shared→Prop),Q (.bool (g i j)) s→wpAny (model X.prog X.w) X.A (f (.int i t) (.int j u)) Q E s) :
  OpR X f (rI0 fun i j=>.bl (g i j)):=by
 intro pins s σ H x y v u Q I rx ry h
 obtain ⟨i,j,rfl,rfl,q⟩:=h
 obtain ⟨t,rfl⟩:=rx
 obtain ⟨t',rfl⟩:=ry
 exact rule i j t t' s _ _ ⟨.bl (g i j),H,I,rfl,q⟩
def CDiv (i j:Int):Prop:=0 < j∧j < 1073741824
def CMul (i j:Int):Prop:=(-(2 ^ 64) < i∧i < 2 ^ 64)∨(-(2 ^ 64) < j∧j < 2 ^ 64)
theorem CMul.ok {i j:Int} (h:CMul i j):IntMulOk i j:=by
 rcases h with ⟨h1,h2⟩ | ⟨h1,h2⟩
 ·exact .of_left (intBits_le_64 h1 h2)
 ·exact .of_right (intBits_le_64 h1 h2)
theorem op_add:OpR X (binaryOp .Add) (rI0 fun i j=>.int (i + j)):=opI0 fun _ _ _ _ _ _ _ q=>add_int q
theorem op_sub:OpR X (binaryOp .Sub) (rI0 fun i j=>.int (i - j)):=opI0 fun _ _ _ _ _ _ _ q=>sub_int q
theorem op_mul:OpR X (binaryOp .Mult) (rI CMul fun i j=>.int (i * j)):=opI fun _ _ _ _ _ _ _ hc q=>mul_int q hc.ok
theorem op_fdiv:OpR X (binaryOp .FloorDiv) (rI CDiv fun i j=>.int (i / j)):=opI fun i j _ _ _ _ _ hc q=>by
 have h1:(0:Int) < j:=hc.1
 have h2:j < 1073741824:=hc.2
 exact floordiv_int (by omega) (by rw [Int.fdiv_eq_ediv_of_nonneg i (by omega)];exact q) (.inl (PyProof.noPylong_small (by omega)))
theorem op_mod:OpR X (binaryOp .Mod) (rI (fun _ j=>0 < j) fun i j=>.int (i % j)):=opI fun i j _ _ _ _ _ hc q=>by
 have h1:(0:Int) < j:=hc
 exact mod_int' (by omega) (by rw [Int.fmod_eq_emod_of_nonneg i (by omega)];exact q)
end
def scal:V→V→Bool
 | .non,.non=>true | .non,.int _=>true | .int _,.non=>true | .non,.bl _=>true | .bl _,.non=>true | .non,.str _=>true | .str _,.non=>true
 | .int _,.int _=>true | .bl _,.bl _=>true | .str _,.str _=>true | .byt _,.byt _=>true
 | .int _,.str _=>true | .str _,.int _=>true | .bl _,.str _=>true | .str _,.bl _=>true
 | _,_=>false
section
variable {X:Cx} {a b c:Expr} {ta tb tc:TE} {pos:Pos}
theorem fin_bl {pins:List (Addr × Obj)} {σ:St} {H:Hp} {s:Shared} {Q:VK} {k k':Bool} (I:Inv X pins σ H s) (q:Q (.bl k) H) (e:k=k'):EP X pins σ Q (.bool k') s:=by
 subst e
 exact ⟨.bl k,H,I,rfl,q⟩
theorem op_lt:OpR X (compareOp .Lt) (rI0 fun i j=>.bl (decide (i < j))):=opB0 fun _ _ _ _ _ _ _ q=>lt_int q
theorem op_gt:OpR X (compareOp .Gt) (rI0 fun i j=>.bl (decide (j < i))):=opB0 fun _ _ _ _ _ _ _ q=>gt_int q
theorem op_ge:OpR X (compareOp .GtE) (rI0 fun i j=>.bl (decide (j≤i))):=opB0 fun _ _ _ _ _ _ _ q=>ge_int q
theorem op_isN:OpR X (compareOp .Is) (fun x y H Q=>y=.non∧Q (.bl (decide (x=.non))) H):=by
 intro pins s σ H x y v u Q I rx ry h
 obtain ⟨rfl,q⟩:=h
 cases ry
 refine is_none_gen (fin_bl I q ?_)
 cases x <;> first
  | (cases rx;rfl)
  | (obtain ⟨t,rfl⟩:=rx;rfl)
theorem op_notN:OpR X (compareOp .IsNot) (fun x y H Q=>y=.non∧Q (.bl (!decide (x=.non))) H):=by
 intro pins s σ H x y v u Q I rx ry h
 obtain ⟨rfl,q⟩:=h
 cases ry
 refine isnot_none_gen (fin_bl I q ?_)
 cases x <;> first
  | (cases rx;rfl)
  | (obtain ⟨t,rfl⟩:=rx;rfl)
theorem OpR.or {f:Value→Value→Sem Value} {r r':R2} (h:OpR X f r) (h':OpR X f r'):OpR X f (fun x y H Q=>r x y H Q∨r' x y H Q):=by
 intro pins s σ H x y v u Q I rx ry q
 rcases q with q | q
 ·exact h pins s σ H x y v u Q I rx ry q
 ·exact h' pins s σ H x y v u Q I rx ry q
theorem nomark (b:Expr) {op:CmpOp} (h:op≠.In:=by decide) (h2:op≠.NotIn:=by decide):behindInMarks op b=false:=by
 have e1:(op == CmpOp.In)=false:=by cases op <;> first | rfl | exact absurd rfl h
 have e2:(op == CmpOp.NotIn)=false:=by cases op <;> first | rfl | exact absurd rfl h2
 cases b <;> simp [behindInMarks,e1,e2]
theorem pe_cmpR {op:CmpOp} {r:R2} (ho:OpR X (compareOp op) r) (ha:PE X a ta) (hb:PE X b tb) (hm:behindInMarks op b=false):PE X (.Compare a [op] [b] pos) (tOp r ta tb):=by
 intro pins s σ H Q I h
 exact wpAny_Compare1 (binT ha hb I h fun v u s2 x y H2 I2 rx ry q=>ho pins s2 σ H2 x y v u Q I2 rx ry q) hm
def tTest (t:TE):TT:=fun σ H Q=>t σ H fun x H'=>∃ k,x=.bl k∧Q k H'
theorem pt_cmpR {op:CmpOp} {r:R2} (ho:OpR X (compareOp op) r) (ha:PE X a ta) (hb:PE X b tb) (hm:behindInMarks op b=false):PT X (.Compare a [op] [b] pos) (tTest (tOp r ta tb)):=by
 intro pins s σ H Q I h
 refine wpAny_isTrue_Compare1 (thn (ha pins s σ H _ I h) fun v s1 ⟨x,H1,I1,r1,q1⟩=>thn (hb pins s1 σ H1 _ I1 q1) fun u s2 ⟨y,H2,I2,r2,q2⟩ =>
  thn (ho pins s2 σ H2 x y v u _ I2 r1 r2 q2) fun c s3 ⟨z,H3,I3,r3,k,e,q3⟩=>?_) hm
 subst e
 cases r3
 exact wpAny_truthy_bool ⟨H3,I3,q3⟩
theorem line63:(sizeLine:Nat) < 2 ^ 63:=by rw [sizeLine_eq];decide
theorem vals1 {x:V} {us:List Value} (r:Vals [x] us):∃ u,us=[u]∧RelV x u:=by
 cases r with
 | cons r1 r2=>cases r2;exact ⟨_,rfl,r1⟩
end
end L2
namespace L2
open PySem PySem.Spec PyProof.Rows
section
variable {prog:Program} {w:World} {A:Around} {E:Value→Shared→Prop} {s:Shared} {K:PySem.W.Frag} {x dx C f:Addr} {mA:Str→Option Value} {name:Str} {v:Value}
end
theorem RelO.some_of {v:V} {o:Option Value} (r:RelO (some v) o):∃ u,o=some u∧RelV v u:=by
 cases o with
 | none=>exact (show False from r).elim
 | some u=>exact ⟨u,rfl,r⟩
section
variable {P:Program} {w:World} {H H':Hp} {h h':Heap} {a C dx:Addr} {fs fs':List (Str × V)}
end
structure Cls (K:PySem.W.Frag) (C:Addr):Prop where
 pg:PySem.W.plainGet K C Str.empty=true
 hd:PySem.W.hasDictIn K C=true
 po:PySem.W.plainOver K C=true
 sa:PySem.W.findIn K (.ref C) "__setattr__"=some (some (.builtin "object.__setattr__"))
theorem Cls.get {K:PySem.W.Frag} {C:Addr} (c:Cls K C) (f:Str):PySem.W.plainGet K C f=true:=c.pg
section
variable {X:Cx} {pins:List (Addr × Obj)} {σ:St} {H:Hp} {s:Shared} {a C dx:Addr} {fs:List (Str × V)} {f:Str} {v:V} {A:Around} {E:Value→Shared→Prop}
theorem Inv.made (I:Inv X pins σ H s):Inv X pins σ (upd (upd H s.heap.objs.size (.own (s.heap.objs.size + 1))) (s.heap.objs.size + 1) (.ins C s.heap.objs.size []))
  { s with heap:=(s.heap.push PySem.W.emptyDict).push (PySem.W.instObj C s.heap.objs.size) }:=by
 have e1:(s.heap.push PySem.W.emptyDict).get? s.heap.objs.size=some PySem.W.emptyDict:=Heap.get?_push_size s.heap rfl
 have e2:((s.heap.push PySem.W.emptyDict).push (PySem.W.instObj C s.heap.objs.size)).get? (s.heap.objs.size + 1)=some (PySem.W.instObj C s.heap.objs.size):=by
  have:=Heap.get?_push_size (s.heap.push PySem.W.emptyDict) (o:=PySem.W.instObj C s.heap.objs.size) rfl
  rwa [Heap.size_push] at this
 have e3:(s.heap.push PySem.W.emptyDict).Ns s.heap.objs.size (fun _=>none):=⟨PySem.W.emptyDict,#[],_,e1,rfl,(fun e he=>absurd he (by simp)),fun _=>rfl⟩
 have I1:=I.laid (a:=s.heap.objs.size) (o:=.own (s.heap.objs.size + 1)) (h':=s.heap.push PySem.W.emptyDict) (t':=s.toks) (fun b u q=>Heap.get?_push_of_some _ q) (Nat.le_refl _) ⟨_,e1⟩
 refine I1.laid (a:=s.heap.objs.size + 1) (o:=.ins C s.heap.objs.size []) (t':=s.toks) (fun b u q=>Heap.get?_push_of_some _ q) (Nat.le_of_eq (Heap.size_push _ _)) ?_
 have ne:s.heap.objs.size≠s.heap.objs.size + 1:=Nat.ne_of_lt (Nat.lt_succ_self _)
 refine ⟨by rw [upd_ne ne,upd_same],Nat.zero_le _,ne,e2,fun _=>none,(Heap.Ns1.of_empty e3).at fun o q=>Heap.get?_push_of_some _ q,fun _=>True.intro,fun y hy=>absurd rfl hy⟩
end
section
variable {X:Cx} {o e value:Expr} {f:Str} {pos pos' tpos:Pos} {ta tv:TE}
end
section
variable {X:Cx} {pins:List (Addr × Obj)} {σ:St} {H:Hp} {s:Shared} {A:Around} {E:Value→Shared→Prop} {Q:Value→Shared→Prop} {c:Value} {b:Bool}
end
end L2
namespace L2
open PySem PySem.Spec PyProof.Rows
structure Room (k:Nat) (A:Around):Prop where
 hd:A.handled=none
 dp:A.depth + 3 * k + 5 < recursionLimit
 un:A.units + 16 * k + 200 < cLine
theorem Room.mono {j k:Nat} {A:Around} (r:Room k A) (h:j≤k):Room j A:=⟨r.hd,by have:=r.dp;omega,by have:=r.un;omega⟩
theorem Room.deeper {k:Nat} {A:Around} (r:Room (k + 1) A) (env:Env):Room k (A.deeper env) :=
 ⟨r.hd,by have:=r.dp;show A.depth + 1 + 3 * k + 5 < _;omega,by have:=r.un;show A.units + 3 + 16 * k + 200 < _;omega⟩
theorem Room.in1 {k:Nat} {A:Around} (r:Room (k + 1) A):Room k A.in1 :=
 ⟨r.hd,by have:=r.dp;show A.depth + 3 * k + 5 < _;omega,by have:=r.un;show A.units + 1 + 16 * k + 200 < _;omega⟩
theorem Room.depth {k:Nat} {A:Around} (r:Room k A):A.depth < recursionLimit:=by have:=r.dp;omega
theorem Room.units {k:Nat} {A:Around} (r:Room k A):A.units + 64 < cLine:=by have:=r.un;omega
def tNil:TA:=fun _ H Q=>Q [] H
def tCons (ta:TE) (tr:TA):TA:=fun σ H Q=>ta σ H fun x H1=>tr σ H1 fun xs H2=>Q (x::xs) H2
section
variable {X:Cx} {e:Expr} {es:List Expr} {te:TE} {t:TA} {pos:Pos}
theorem pa_nil:PA X [] tNil:=fun _ _ _ _ H Q I h=>Calls.spliced_nil ⟨[],H,I,.nil,h⟩
theorem pa_cons (ha:PE X e te) (hr:PA X es t) (hs:starEach (e::es) X.env=(false,eval e X.env)::starEach es X.env:=by rfl):PA X (e::es) (tCons te t):=by
 intro pos pins s σ H Q I h
 rw [hs]
 show wpAny _ _ (spliced ((false,eval e X.env)::backTo pos (starEach es X.env))) _ _ s
 refine Calls.spliced_cons (thn (ha pins s σ H _ I h) fun u s1 ⟨x,H1,I1,r1,q1⟩=>?_)
 exact thn (hr pos pins s1 σ H1 _ I1 q1) fun us s2 ⟨xs,H2,I2,r2,q2⟩=>⟨x::xs,H2,I2,.cons r1 r2,q2⟩
def tTup (t:TA):TE:=fun σ H Q=>t σ H fun xs H1=>xs.length≤sizeLine∧∀ p,H1 p=none→Q (.ref p) (upd H1 p (.tup xs))
def tLst (t:TA):TE:=fun σ H Q=>t σ H fun xs H1=>xs.length≤sizeLine∧∀ p,H1 p=none→Q (.ref p) (upd H1 p (.lst xs))
theorem pe_tup {x1} (h:PA X es t):PE X (.Tuple es x1 pos) (tTup t):=by
 intro pins s σ H Q I hq
 refine wpAny_Tuple_spliced (thn (h pos pins s σ H _ I hq) fun us s1 ⟨xs,H1,I1,r,z,q⟩=>⟨by rw [← r.length];exact z,?_⟩)
 have hf:H1 s1.heap.objs.size=none:=I1.hok.fresh (Nat.le_refl _)
 refine ⟨.ref s1.heap.objs.size,upd H1 s1.heap.objs.size (.tup xs),I1.laid (t':=s1.toks) (fun b u e=>Heap.get?_push_of_some _ e) (Nat.le_refl _) ?_,rfl,q _ hf⟩
 exact ⟨z,us,r,⟨_,Heap.get?_push_size _ rfl,rfl,_,rfl⟩⟩
theorem pe_lst (h:PA X es t):PE X (.List es pos) (tLst t):=by
 intro pins s σ H Q I hq
 refine wpAny_List_spliced (thn (h pos pins s σ H _ I hq) fun us s1 ⟨xs,H1,I1,r,z,q⟩=>⟨by rw [← r.length];exact z,?_⟩)
 have hf:H1 s1.heap.objs.size=none:=I1.hok.fresh (Nat.le_refl _)
 refine ⟨.ref s1.heap.objs.size,upd H1 s1.heap.objs.size (.lst xs),I1.laid (t':=s1.toks) (fun b u e=>Heap.get?_push_of_some _ e) (Nat.le_refl _) ?_,rfl,q _ hf⟩
 exact ⟨z,us,0,r,Heap.get?_push_size _ rfl⟩
end
abbrev Sp:=List V→Hp→VK→XK→Prop
abbrev CXT:=List Env→Hp→Shared→XK→Value→Shared→Prop
structure Env0 (P:Program) (w:World) (K:PySem.W.Frag) (mg:Str→Option Value) (base:Heap) (A:Around) (outer:List Env) (s:Shared) (H:Hp):Prop where
 frames:A.frames=some outer
 mod:Mod K mg base
 bs:∀ b o,base.get? b=some o→s.heap.get? b=some o∧H b=none
 bsz:base.objs.size≤s.heap.objs.size
 funs:s.heap.FunFrames base outer
 frf:∀ b ∈ frs outer,H b=none
 hok:HOk P w H s.heap
 bare:AllBare s.gens
def CE (outer:List Env) (P:Program) (w:World) (H:Hp) (s:Shared) (Q:VK) (u:Value) (s':Shared):Prop :=
 ∃ v H',s'.os=s.os∧AllBare s'.gens∧Un (frs outer) [] H H' s.heap s'.heap∧HOk P w H' s'.heap∧RelV v u∧Q v H'
def CR (CX:CXT) (outer:List Env) (P:Program) (w:World) (H:Hp) (s:Shared) (Q:VK) (E:XK) (r:Result) (s':Shared):Prop :=
 match r with
 | .ok (.ret u)=>CE outer P w H s Q u s'
 | .ok _=>False
 | .error e=>CX outer H s E e s'
structure FnOk (P:Program) (w:World) (K:PySem.W.Frag) (mg:Str→Option Value) (base:Heap) (CX:CXT) (k:Nat) (f:Addr) (fd:FuncData) (ps:List Str) (sp:Sp):Prop where
 len:∀ vs H Q E,sp vs H Q E→vs.length=ps.length
 run:∀ (A:Around) (outer:List Env) (s:Shared) (H:Hp) (args:Args) (us:List Value) (vs:List V) (Q:VK) (E:XK),Room k A→Env0 P w K mg base A outer s H→BindsTo s fd args (ps.zip us)→Vals vs us→sp vs H Q E →
  codeAny (model P w) A (.call (.ref f) args) (CR CX outer P w H s Q E) s
theorem FnOk.mono {P:Program} {w:World} {K:PySem.W.Frag} {mg:Str→Option Value} {base:Heap} {CX:CXT} {j k:Nat} {f:Addr} {fd:FuncData} {ps:List Str} {sp:Sp} (F:FnOk P w K mg base CX j f fd ps sp) (h:j≤k) :
  FnOk P w K mg base CX k f fd ps sp:=⟨F.len,fun A outer s H args us vs Q E hr=>F.run A outer s H args us vs Q E (hr.mono h)⟩
theorem FnOk.imp {P:Program} {w:World} {K:PySem.W.Frag} {mg:Str→Option Value} {base:Heap} {CX:CXT} {k:Nat} {f:Addr} {fd:FuncData} {ps:List Str} {sp sp':Sp} (F:FnOk P w K mg base CX k f fd ps sp)
  (h:∀ vs H Q E,sp' vs H Q E→sp vs H Q E):FnOk P w K mg base CX k f fd ps sp' :=
 ⟨fun vs H Q E q=>F.len vs H Q E (h _ _ _ _ q),fun A outer s H args us vs Q E hr he hb hv hs=>F.run A outer s H args us vs Q E hr he hb hv (h _ _ _ _ hs)⟩
theorem Env0.in1 {P:Program} {w:World} {K:PySem.W.Frag} {mg:Str→Option Value} {base:Heap} {A:Around} {outer:List Env} {s:Shared} {H:Hp} (e:Env0 P w K mg base A outer s H) :
  Env0 P w K mg base A.in1 outer s H:=⟨e.frames,e.mod,e.bs,e.bsz,e.funs,e.frf,e.hok,e.bare⟩
section
variable {X:Cx} {pins:List (Addr × Obj)} {σ:St} {H:Hp} {s s':Shared}
theorem Inv.env0 (I:Inv X pins σ H s):Env0 X.prog X.w X.K X.mg X.base X.A X.stack s H :=
 ⟨I.ok.frames,I.ok.mod,I.bs,Nat.le_trans I.ok.bsz I.sz,I.stack,I.stkFree,I.hok,I.bare⟩
theorem Inv.after {Q:VK} {u:Value} (I:Inv X pins σ H s) (h:CE X.stack X.prog X.w H s Q u s'):EP X pins σ Q u s':=by
 obtain ⟨v,H',os,bare,un,hok,r,q⟩:=h
 obtain ⟨hh,g,d,t,os'⟩:=s'
 obtain rfl:os'=s.os:=os
 exact ⟨v,H',I.call (h':=hh) (g':=g) (d':=d) (t':=t) (ch:=[]) un hok bare (fun b z=>absurd z (by simp)),r,q⟩
end
def tCall (sp:Sp) (dvs:List V) (E:XK) (t:TA):TE:=fun σ H Q=>t σ H fun vs H1=>sp (vs++dvs) H1 Q E
def Binds (K:PySem.W.Frag) (fd:FuncData) (ps:List Str) (ds:List Value):Prop :=
 ∀ (s:Shared) (us:List Value),K.In s.heap→(us++ds).length=ps.length→BindsTo s fd ⟨us,[]⟩ (ps.zip (us++ds))
theorem Binds.all {K:PySem.W.Frag} {fd:FuncData} {ps:List Str} (h:∀ us:List Value,us.length=ps.length→bindArgs fd ⟨us,[]⟩=pure (ps.zip us)):Binds K fd ps []:=fun s us _ hl=>by
 rw [List.append_nil] at hl ⊢
 exact .of_eq (h us hl)
def Passes (CX:CXT) (X:Cx) (E:XK):Prop:=∀ (pins:List (Addr × Obj)) (σ:St) (H:Hp) (s:Shared) (e:Value) (s':Shared),Inv X pins σ H s→CX X.stack H s E e s'→X.xe e s'
section
variable {X:Cx} {CX:CXT} {k:Nat} {f C:Addr} {fd:FuncData} {ps:List Str} {sp:Sp} {dvs:List V} {ds:List Value} {E:XK} {x m:Str} {p pos apos:Pos} {e o:Expr} {es:List Expr} {ta:TE} {t:TA}
theorem run_fn {pins:List (Addr × Obj)} {σ:St} {H:Hp} {s:Shared} {Q:VK} {us:List Value} {vs:List V} (F:FnOk X.prog X.w X.K X.mg X.base CX k f fd ps sp) (hr:Room k X.A) (hb:Binds X.K fd ps ds) (hd:Vals dvs ds) (hx:Passes CX X E)
  (I:Inv X pins σ H s) (r:Vals vs us) (h:sp (vs++dvs) H Q E):wpAny (model X.prog X.w) X.A (call (.ref f) us) (EP X pins σ Q) X.xe s:=by
 have r2:Vals (vs++dvs) (us++ds):=r.append hd
 have hl:(us++ds).length=ps.length:=by rw [← r2.length];exact F.len _ _ _ _ h
 refine wpAny_call (codeAny_mono (F.run X.A X.stack s H ⟨us,[]⟩ (us++ds) (vs++dvs) Q E hr I.env0 (hb s us I.kIn hl) r2 h) fun r s' hq=>?_)
 cases r with
 | error e=>exact hx pins σ H s e s' I hq
 | ok fl =>
  cases fl with
  | ret u=>exact I.after hq
  | next=>exact False.elim hq
  | brk=>exact False.elim hq
  | cont=>exact False.elim hq
theorem pe_call (F:FnOk X.prog X.w X.K X.mg X.base CX k f fd ps sp) (hr:Room k X.A) (hg:Gl X x) (hm:X.mg x=some (.ref f)) (hk:PySem.W.keepIn X.K (.ref f)=true) (hb:Binds X.K fd ps ds) (hd:Vals dvs ds) (hx:Passes CX X E)
  (ha:PA X (e::es) t) (hdb:(x == ("__debug__":Str))=false:=by decide) (he:starEach (e::es) X.env=(false,eval e X.env)::starEach es X.env:=by rfl) (hpl:(backTo pos (starEach es X.env)).any (·.1)=false:=by rfl) :
  PE X (.Call (.Name x p) (e::es) [] pos) (tCall sp dvs E t):=by
 intro pins s σ H Q I h
 refine wpAny_Call_Name_kw (ld_glob I hg hm ?_ hdb)
 refine PySem.W.callWith_K (h₀:=X.base) I.ok.mod.kin hk (thn (ha pos pins s σ H _ I h) fun us s1 ⟨vs,H1,I1,r,q⟩=>⟨I1.kIn,?_⟩) he hpl
 exact run_fn F hr hb hd hx I1 r q
theorem pe_call0 (F:FnOk X.prog X.w X.K X.mg X.base CX k f fd ps sp) (hr:Room k X.A) (hg:Gl X x) (hm:X.mg x=some (.ref f)) (hk:PySem.W.keepIn X.K (.ref f)=true) (hb:Binds X.K fd ps ds) (hd:Vals dvs ds) (hx:Passes CX X E)
  (hdb:(x == ("__debug__":Str))=false:=by decide):PE X (.Call (.Name x p) [] [] pos) (tCall sp dvs E tNil):=by
 intro pins s σ H Q I h
 refine wpAny_Call_Name_kw (ld_glob I hg hm ?_ hdb)
 exact PySem.W.callWith_K0 I.kIn hk (run_fn (us:=[]) F hr hb hd hx I .nil h)
end
def PK (X:Cx) (kws:List Keyword) (t:TA):Prop :=
 ∀ (pos:Pos) (pins:List (Addr × Obj)) (s:Shared) (σ:St) (H:Hp) (Q:List V→Hp→Prop),Inv X pins σ H s→t σ H Q→wpAny (model X.prog X.w) X.A (evalAll ((backToKw pos (keywordEach kws X.env)).map (·.2))) (AP X pins σ Q) X.xe s
section
variable {X:Cx} {CX:CXT} {k:Nat} {f C:Addr} {fd:FuncData} {ps ks:List Str} {sp:Sp} {E:XK} {x m:Str} {p pos apos kpos:Pos} {e o:Expr} {es:List Expr} {kws:List Keyword} {te ta:TE} {t tk:TA} {nm:Option Str}
theorem pk_nil:PK X [] tNil:=fun _ _ _ _ H Q I h=>wpAny_evalAll_nil ⟨[],H,I,.nil,h⟩
theorem pk_cons (ha:PE X e te) (hr:PK X kws t):PK X (⟨nm,e,kpos⟩::kws) (tCons te t):=by
 intro pos pins s σ H Q I h
 show wpAny _ _ (evalAll ((do let v ← eval e X.env;standAt pos;pure v)::(backToKw pos (keywordEach kws X.env)).map (·.2))) _ _ s
 refine wpAny_evalAll_cons (wpAny_bind (thn (ha pins s σ H _ I h) fun u s1 ⟨x,H1,I1,r1,q1⟩=>wpAny_bind (wpAny_standAt (wpAny_pure ?_))))
 exact thn (hr pos pins s1 σ H1 _ I1 q1) fun us s2 ⟨xs,H2,I2,r2,q2⟩=>⟨x::xs,H2,I2,.cons r1 r2,q2⟩
variable {g:List Value→List Value→List Value} {gV:List V→List V→List V}
end
structure FnScope (N P:List Str) (sc:Scope):Prop where
 kind:sc.kind=.function
 co:sc.isCoroutine=false
 gen:sc.isGenerator=false
 nd:N.Nodup
 pre:N.take P.length=P
 par:∀ x ∈ P,sc.names.lookup x=some .local∨sc.names.lookup x=some .cell
 nofree:∀ y ∈ sc.names,y.2≠.free
theorem bindL_out {kindOf:Str→Option NameKind} {x:Str}:∀ {binds:List (Str × Value)} {m:Str→Option Value},(∀ v,(x,v) ∉ binds)→bindL kindOf binds m x=m x
 | [],_,_=>rfl
 | (n,v)::r,m,h=>by
  unfold bindL
  rw [bindL_out fun w hw=>h w (List.mem_cons_of_mem _ hw)]
  split
  ·have:x≠n:=by rintro rfl;exact h v List.mem_cons_self
   simp [this]
  ·rfl
theorem bindC_out {kindOf:Str→Option NameKind} {x:Str}:∀ {binds:List (Str × Value)} {m:Str→Option Value},(∀ v,(x,v) ∉ binds)→bindC kindOf binds m x=m x
 | [],_,_=>rfl
 | (n,v)::r,m,h=>by
  unfold bindC
  rw [bindC_out fun w hw=>h w (List.mem_cons_of_mem _ hw)]
  split
  ·rfl
  ·have:x≠n:=by rintro rfl;exact h v List.mem_cons_self
   simp [this]
theorem bindL_get {kindOf:Str→Option NameKind} {x:Str} {v:Value}:∀ {P:List Str} {vs:List Value} {i:Nat} {m:Str→Option Value},P.Nodup→P[i]?=some x→vs[i]?=some v→kindOf x=some .local →
  bindL kindOf (P.zip vs) m x=some v
 | [],_,_,_,_,h,_,_=>by simp at h
 | _::_,[],_,_,_,_,h,_=>by simp at h
 | p::P,w::vs,0,m,nd,h1,h2,hk=>by
  simp at h1 h2;subst h1;subst h2
  show bindL kindOf ((p,w)::P.zip vs) m p=_
  unfold bindL
  rw [bindL_out fun v hv=>(List.nodup_cons.mp nd).1 (List.of_mem_zip hv).1,if_pos hk]
  simp
 | p::P,w::vs,i + 1,m,nd,h1,h2,hk=>by
  show bindL kindOf ((p,w)::P.zip vs) m x=_
  unfold bindL
  exact bindL_get (i:=i) (List.nodup_cons.mp nd).2 (by simpa using h1) (by simpa using h2) hk
theorem bindC_get {kindOf:Str→Option NameKind} {x:Str} {v:Value}:∀ {P:List Str} {vs:List Value} {i:Nat} {m:Str→Option Value},P.Nodup→P[i]?=some x→vs[i]?=some v→kindOf x≠some .local →
  bindC kindOf (P.zip vs) m x=some v
 | [],_,_,_,_,h,_,_=>by simp at h
 | _::_,[],_,_,_,_,h,_=>by simp at h
 | p::P,w::vs,0,m,nd,h1,h2,hk=>by
  simp at h1 h2;subst h1;subst h2
  show bindC kindOf ((p,w)::P.zip vs) m p=_
  unfold bindC
  rw [bindC_out fun v hv=>(List.nodup_cons.mp nd).1 (List.of_mem_zip hv).1,if_neg hk]
  simp
 | p::P,w::vs,i + 1,m,nd,h1,h2,hk=>by
  show bindC kindOf ((p,w)::P.zip vs) m x=_
  unfold bindC
  exact bindC_get (i:=i) (List.nodup_cons.mp nd).2 (by simpa using h1) (by simpa using h2) hk
def start (N:List Str) (vs:List V):St:=vs.map some++List.replicate (N.length - vs.length) none
def cxOf (CX:CXT) (P:Program) (w:World) (K:PySem.W.Frag) (mg:Str→Option Value) (base:Heap) (N:List Str) (qual:Str) (scope:Scope) (f:Addr) (cd:Value) (A:Around) (outer:List Env) (s:Shared) (H:Hp) (E:XK):Cx where
 prog:=P
 w:=w
 K:=K
 mg:=mg
 base:=base
 A:=A.deeper (envOfC qual scope s.heap.objs.size f cd)
 N:=N
 s₀:=s
 H₀:=H
 env:=envOfC qual scope s.heap.objs.size f cd
 outer:=outer
 stack:=envOfC qual scope s.heap.objs.size f cd::outer
 ex:=[]
 calm:=true
 fn:=fun _=>true
 pn:=[]
 xe:=fun e s'=>wpAny (model P w) (A.deeper (envOfC qual scope s.heap.objs.size f cd)) (leaving (envOfC qual scope s.heap.objs.size f cd) e) (fun _ s''=>CX outer H s E e s'') (fun e' s''=>CX outer H s E e' s'') s'
theorem cell_has {sc:Scope} {n:Nat} {x:Str} (h:sc.names.lookup x=some .cell):∃ c,(cellsFrom n sc.names []).lookup x=some c:=by
 have q:=PySem.W.cellsFrom_some sc.names n [] (.inl h)
 exact Option.isSome_iff_exists.mp q
theorem inv_start {CX : CXT} {P : Program} {w : World} {K : PySem.W.Frag} {mg : Str → Option Value} {base : Heap} {N ps : List Str} {qual : Str} {scope : Scope} {f : Addr} {cd : Value} {A : Around} {outer : List Env} {s s1 : Shared} {H : Hp} {E : XK} {us : List Value} {vs : List V}
    (S : FnScope N ps scope) (hd : A.handled = none) (e0 : Env0 P w K mg base A outer s H) (hl : vs.length = ps.length) (r : Vals vs us)
    (x : InCallC s s.heap.objs.size (bindL (envOfC qual scope s.heap.objs.size f cd).kindOf (ps.zip us) fun _ => none) (cellsFrom (s.heap.objs.size + 1) scope.names []) (bindC (envOfC qual scope s.heap.objs.size f cd).kindOf (ps.zip us) fun _ => none) s1) :
    Inv (cxOf CX P w K mg base N qual scope f cd A outer s H E) [] (start N vs) H s1 := by
  have hpl : ps.length ≤ N.length := by have := congrArg List.length S.pre; rw [List.length_take] at this; omega
  obtain ⟨h1, tk, rfl, hk⟩ := x.done
  have noA : ∀ b : Addr, b ∉ (cxOf CX P w K mg base N qual scope f cd A outer s H E).ex := fun b z => absurd (show b ∈ ([] : List Addr) from z) (by simp)
  refine ⟨⟨e0.mod, S.kind, rfl, rfl, Nat.le_refl _, fun y z c h1 h2 => ?_, fun y hy => ?_, fun y c _ h => ?_, fun _ => hd, Around.frames_deeper e0.frames, .inr ⟨rfl, rfl⟩, fun b z => absurd z (noA b), e0.bs, e0.bsz, fun b _ _ => noA b, fun b z => absurd z (noA b), e0.funs, e0.frf⟩,
    rfl, e0.bare, Un.kept hk, ⟨_, x.toInCall.ns, fun i y v h1 h2 h3 => ?_⟩, fun y c h => ⟨_, x.cell y c h⟩, e0.hok.fresh (Nat.le_refl _), fun y c h => ?_, fun p hp => absurd (show p ∈ ([] : List (Addr × Obj)) from hp) (by simp), e0.hok.kept hk, ?_⟩
  · exact name_of_addr x.apart (PySem.mem_of_lookup h1) (PySem.mem_of_lookup h2)
  · have hy : scope.names.lookup y = some .cell ∨ scope.names.lookup y = some .free := hy
    rcases hy with hy | hy
    · exact cell_has hy
    · exact absurd rfl (S.nofree _ (PySem.mem_of_lookup hy))
  · exact Nat.le_of_lt (x.above y c (PySem.mem_of_lookup h))
  · have hi : i < vs.length := by
      unfold start at h2
      by_cases hi : i < vs.length
      · exact hi
      · rw [List.getElem?_append_right (by simpa using hi)] at h2
        rw [List.getElem?_replicate] at h2
        split at h2 <;> cases h2
    have ha : vs[i]? = some v := by
      unfold start at h2
      rw [List.getElem?_append_left (by simpa using hi), List.getElem?_map] at h2
      cases e : vs[i]? with
      | none => rw [e] at h2; cases h2
      | some a => rw [e] at h2; cases h2; rfl
    obtain ⟨u, hu, rv⟩ := r.get ha
    have hp : ps[i]? = some y := by
      rw [← S.pre, List.getElem?_take_of_lt (by omega)]; exact h1
    have ndP : ps.Nodup := by rw [← S.pre]; exact S.nd.sublist (List.take_sublist _ _)
    refine ⟨u, rv, ?_⟩
    rcases S.par y (List.mem_of_getElem? hp) with k | k
    · exact .inl ⟨k, bindL_get ndP hp hu k⟩
    · obtain ⟨c, e⟩ := cell_has (n := s.heap.objs.size + 1) k
      refine .inr ⟨.inl k, c, e, ?_⟩
      have q := x.cell y c e
      rw [bindC_get ndP hp hu (by show scope.names.lookup y ≠ _; rw [k]; decide)] at q
      exact q
  · exact e0.hok.fresh (Nat.le_of_lt (x.above y c (PySem.mem_of_lookup h)))
  · unfold start
    show _ = N.length
    rw [List.length_append, List.length_map, List.length_replicate]
    omega
theorem fn_of {CX:CXT} {P:Program} {w:World} {K:PySem.W.Frag} {mg:Str→Option Value} {base:Heap} {k:Nat} {f:Addr} {name qual:Str} {params:Arguments} {body:List Stmt} {scope:Scope} {dV kV doc pm cdv ct oc:Value} {an od:Option Addr}
  {osl:Array (Option Value)} {N ps:List Str} {sp:Sp} (lk:K.lookup f=some ⟨oc,od,.func (PySem.W.fnOf name qual params body scope dV kV doc pm an cdv ct),osl⟩) (hcd:PySem.W.codeIn K cdv qual=true) (S:FnScope N ps scope)
  (len:∀ vs H Q E,sp vs H Q E→vs.length=ps.length)
  (hbody:∀ (A:Around) (outer:List Env) (s:Shared) (H:Hp) (vs:List V) (Q:VK) (E:XK),Room k (A.deeper (envOfC qual scope s.heap.objs.size f cdv))→sp vs H Q E →
   ∃ t,PSs (cxOf CX P w K mg base N qual scope f cdv A outer s H E) body t∧t { nx:=fun _ H'=>Q .non H',rt:=Q } (start N vs) H) :
  FnOk P w K mg base CX (k + 1) f (PySem.W.fnOf name qual params body scope dV kV doc pm an cdv ct) ps sp:=by
 refine ⟨len,fun A outer s H args us vs Q E hr e0 hb r hsp=>?_⟩
 have hl:=len _ _ _ _ hsp
 have KX:K.In s.heap:=e0.mod.kin.keeps fun b o e=>(e0.bs b o e).1
 have lim:s.heap.NoLimit:=e0.mod.nolimit.keeps fun b o e=>(e0.bs b o e).1
 have hkind:∀ y ∈ ps.zip us,scope.names.lookup y.1=some .local∨(scope.names.lookup y.1=some .cell∧((cellsFrom (s.heap.objs.size + 1) scope.names []).lookup y.1).isSome=true):=fun ⟨n,v⟩ hy=>by
  rcases S.par n (List.of_mem_zip hy).1 with q | q
  ·exact .inl q
  ·exact .inr ⟨q,PySem.W.cellsFrom_some _ _ _ (.inl q)⟩
 refine codeAny_call_function hr.depth (KX _ _ lk) rfl S.co S.gen rfl (PySem.W.codeRec_of KX hcd) (hb _ _ _ _ ?_)
 refine wpAny_newFunctionEnv_cells S.kind hkind fun env he s1 x=>?_
 subst he
 refine ⟨lim.keeps x.toInCall.keep,codeAny_func ?_⟩
 obtain ⟨t,ht,hq⟩:=hbody A outer s H vs Q E (hr.deeper _) hsp
 have I:Inv (cxOf CX P w K mg base N qual scope f cdv A outer s H E) [] (start N vs) H s1:=inv_start S hr.hd e0 hl r x
 refine wpAny_mono (ht [] s1 (start N vs) H _ I hq) (fun fl s' hs=>?_) fun e s' hs=>hs
 have fin:∀ {σ':St} {H':Hp} {v:V} {u:Value},Inv (cxOf CX P w K mg base N qual scope f cdv A outer s H E) [] σ' H' s'→RelV v u→Q v H'→CE outer P w H s Q u s' :=
  fun {σ' H' v u} J rv q=>⟨v,H',J.os,J.bare,J.base,J.hok,rv,q⟩
 cases fl with
 | ret u =>
  obtain ⟨v,σ',H',J,rv,q⟩:=hs
  exact fin J rv q
 | next =>
  obtain ⟨σ',H',J,q⟩:=hs
  exact fin (v:=V.non) (u:=Value.none) J rfl q
 | brk =>
  obtain ⟨_,_,_,q⟩:=hs
  exact False.elim q
 | cont =>
  obtain ⟨_,_,_,q⟩:=hs
  exact False.elim q
end L2
namespace L2
open PySem PySem.Spec PyProof.Rows
section
variable {X:Cx} {x:Str} {p pos:Pos} {e:Expr} {es:List Expr} {t:TA} {id T:String} {r:List V→Hp→VK→Prop}
def tCB (r:List V→Hp→VK→Prop) (t:TA):TE:=fun σ H Q=>t σ H fun vs H1=>r vs H1 Q
theorem pe_callB (hc:CallR X (.builtin id) r) (hg:Gl X x) (hm:X.mg x=none) (hv:bootBuiltins x=some (.builtin id)) (ha:PA X (e::es) t) (hn:x≠"__name__":=by decide) (hdb:(x == ("__debug__":Str))=false:=by decide)
  (he:starEach (e::es) X.env=(false,eval e X.env)::starEach es X.env:=by rfl) (hpl:(backTo pos (starEach es X.env)).any (·.1)=false:=by rfl):PE X (.Call (.Name x p) (e::es) [] pos) (tCB r t):=by
 intro pins s σ H Q I h
 refine wpAny_Call_Name_kw (ld_blt I hg hm hv ?_ hn hdb)
 exact PyProof.Rows.callWith_builtin1 (thn (ha pos pins s σ H _ I h) fun us s1 ⟨vs,H1,I1,r1,q1⟩=>hc pins s1 σ H1 vs us Q I1 r1 q1) he hpl
theorem pe_callTy (hc:CallR X (.type T) r) (hg:Gl X x) (hm:X.mg x=none) (hv:bootBuiltins x=some (.type T)) (ha:PA X (e::es) t) (hn:x≠"__name__":=by decide) (hdb:(x == ("__debug__":Str))=false:=by decide)
  (he:starEach (e::es) X.env=(false,eval e X.env)::starEach es X.env:=by rfl) (hpl:(backTo pos (starEach es X.env)).any (·.1)=false:=by rfl):PE X (.Call (.Name x p) (e::es) [] pos) (tCB r t):=by
 intro pins s σ H Q I h
 refine wpAny_Call_Name_kw (ld_blt I hg hm hv ?_ hn hdb)
 exact PyProof.Rows.callWith_type1 (thn (ha pos pins s σ H _ I h) fun us s1 ⟨vs,H1,I1,r1,q1⟩=>hc pins s1 σ H1 vs us Q I1 r1 q1) he hpl
end
end L2
namespace HT
open PySem PyProof.Rows
section
open PySem.SeqAt
open PySem.AutoSeq1 (wpAny_loadPart')
open PySem.MeetsSeq PySem.MeetsSeq2 PySem.MeetsSeq3
end
section
variable {prog:Program} {w:World} {A:Around} {E:Value→Shared→Prop} {s:Shared}
end
end HT
namespace L2
open PySem PySem.Spec PyProof.Rows
abbrev TO:=St→Hp→(Option Int→Hp→Prop)→Prop
section
variable {X:Cx} {e:Expr} {te:TE} {lo hi:Option Expr} {tl th:TO} {pos p2:Pos}
def SlR (X:Cx) (r:V→Option Int→Option Int→Hp→VK→Prop):Prop :=
 ∀ (pins:List (Addr × Obj)) (s:Shared) (σ:St) (H:Hp) (x:V) (v vl vu:Value) (lo hi:Option Int) (sl:Addr) (Q:VK),Inv X pins σ H s→RelV x v→s.heap.IsSliceOf sl vl vu .none→IsPart vl lo→IsPart vu hi→r x lo hi H Q →
  ∃ T id,typeLookup (.type T) "__getitem__"=pure (some (.builtin id))∧s.TypeIs v T∧wpAny (model X.prog X.w) X.A (getItem v (.ref sl)) (EP X pins σ Q) X.xe s
theorem SlR.or {r r':V→Option Int→Option Int→Hp→VK→Prop} (h:SlR X r) (h':SlR X r'):SlR X (fun x lo hi H Q=>r x lo hi H Q∨r' x lo hi H Q):=by
 intro pins s σ H x v vl vu lo hi sl Q I rx hs pl pu q
 rcases q with q | q
 ·exact h pins s σ H x v vl vu lo hi sl Q I rx hs pl pu q
 ·exact h' pins s σ H x v vl vu lo hi sl Q I rx hs pl pu q
end
end L2
namespace L2
open PySem PySem.Spec PyProof.Rows
def ixN (n:Nat) (i:Int):Option Nat:=if 0≤i then (if i < n then some i.toNat else none) else if -(n:Int)≤i then some (i + n).toNat else none
def atI {α:Type} (xs:List α) (i:Int):Option α:=(ixN xs.length i).bind fun j=>xs[j]?
theorem ixN_seq {n:Nat} {i:Int} {j:Nat} (h:ixN n i=some j):seqIndex? i n=some j∧j < n∧-(n:Int)≤i∧i < n:=by
 unfold ixN at h
 by_cases h0:0≤i
 ·rw [if_pos h0] at h
  by_cases h1:i < n
  ·rw [if_pos h1] at h
   have e:i.toNat=j:=Option.some.inj h
   exact ⟨by rw [seqIndex_of h0 h1,e],by omega,by omega,h1⟩
  ·rw [if_neg h1] at h;cases h
 ·rw [if_neg h0] at h
  by_cases h1:-(n:Int)≤i
  ·rw [if_pos h1] at h
   have e:(i + n).toNat=j:=Option.some.inj h
   exact ⟨by rw [seqIndex_neg (by omega) h1,e],by omega,h1,by omega⟩
  ·rw [if_neg h1] at h;cases h
theorem atI_get {α:Type} {xs:List α} {i:Int} {v:α} (h:atI xs i=some v):∃ j,seqIndex? i xs.length=some j∧xs[j]?=some v∧j < xs.length∧-(xs.length:Int)≤i∧i < xs.length:=by
 unfold atI at h
 cases e:ixN xs.length i with
 | none=>rw [e] at h;cases h
 | some j =>
  rw [e] at h
  obtain ⟨h1,h2,h3,h4⟩:=ixN_seq e
  exact ⟨j,h1,h,h2,h3,h4⟩
def PlainIx (b:Expr):Prop:=∀ o i,subscripted b false o i=operate [o,i] (getItem o i)
def IxR (X:Cx) (r:R2):Prop :=
 ∀ (value slice:Expr) (pins:List (Addr × Obj)) (s:Shared) (σ:St) (H:Hp) (x y:V) (v u:Value) (Q:VK),Inv X pins σ H s→RelV x v→RelV y u→r x y H Q →
  subscripted slice false v u=operate [v,u] (getItem v u)→wpAny (model X.prog X.w) X.A (subscriptTail value slice v u) (EP X pins σ Q) X.xe s
def MtR (X:Cx) (id:String) (r:V→List V→Hp→VK→Prop):Prop :=
 ∀ (pins:List (Addr × Obj)) (s:Shared) (σ:St) (H:Hp) (x:V) (xs:List V) (v:Value) (us:List Value) (Q:VK),Inv X pins σ H s→RelV x v→Vals xs us→r x xs H Q →
  wpAny (model X.prog X.w) X.A (call (.builtin id) (v::us)) (EP X pins σ Q) X.xe s
section
variable {X:Cx} {a b:Expr} {ta tb:TE} {pos:Pos}
theorem IxR.or {r r':R2} (h:IxR X r) (h':IxR X r'):IxR X (fun x y H Q=>r x y H Q∨r' x y H Q):=by
 intro value slice pins s σ H x y v u Q I rx ry q hs
 rcases q with q | q
 ·exact h value slice pins s σ H x y v u Q I rx ry q hs
 ·exact h' value slice pins s σ H x y v u Q I rx ry q hs
theorem MtR.or {id:String} {r r':V→List V→Hp→VK→Prop} (h:MtR X id r) (h':MtR X id r'):MtR X id (fun x xs H Q=>r x xs H Q∨r' x xs H Q):=by
 intro pins s σ H x xs v us Q I rx rs q
 rcases q with q | q
 ·exact h pins s σ H x xs v us Q I rx rs q
 ·exact h' pins s σ H x xs v us Q I rx rs q
theorem pe_ix {r:R2} (hr:IxR X r) (ha:PE X a ta) (hb:PE X b tb) (hs:PlainIx b):PE X (.Subscript a b pos) (tOp r ta tb):=by
 intro pins s σ H Q I h
 exact Subscript_ (binT ha hb I h fun v u s2 x y H2 I2 rx ry q=>hr a b pins s2 σ H2 x y v u Q I2 rx ry q (hs _ _))
def rIxL (K:PySem.W.Frag):R2:=fun x y H Q=>∃ p xs i v,x=.ref p∧y=.int i∧SqL K H p xs∧atI xs i=some v∧Q v H
def rIxT (K:PySem.W.Frag):R2:=fun x y H Q=>∃ p xs i v,x=.ref p∧y=.int i∧SqT K H p xs∧atI xs i=some v∧Q v H
def rIxS:R2:=fun x y H Q=>∃ z i c,x=.str z∧y=.int i∧z.length≤sizeLine∧atI z.cps.toList i=some c∧Q (.str ⟨#[c]⟩) H
theorem ix_list : IxR X (rIxL X.K) := by
  intro value slice pins s σ H x y v u Q I rx ry h hs
  obtain ⟨p, xs, i, z, rfl, rfl, hq, he, q⟩ := h
  cases rx
  obtain ⟨t, rfl⟩ := ry
  obtain ⟨its, r, pl, hz⟩ := I.list hq
  obtain ⟨j, h1, h2, h3, h4, h5⟩ := atI_get he
  obtain ⟨w, ew, rw'⟩ := r.get h2
  have hl := r.length
  have hn := line63
  have fin : EP X pins σ Q w s := ⟨z, H, I, rw', q⟩
  by_cases h0 : 0 ≤ i
  · have hj : i.toNat = j := by
      rw [seqIndex_of h0 h5] at h1
      exact Option.some.inj h1
    exact item_listR pl.isList h0 (by omega) (by rw [hj]; simpa using ew) fin hs
  · have hj : (i + (its.toArray.size : Int)).toNat = j := by
      rw [seqIndex_neg (by omega) h4] at h1
      rw [List.size_toArray, ← hl]
      exact Option.some.inj h1
    exact subscriptTail_builtinR (x := w) pl.isList.typeIs slot_list_getitem.lookup
      (wpAny_getItem_list_neg (Q := fun r s' => r = w ∧ EP X pins σ Q r s') pl.isList (by omega) (by rw [List.size_toArray] <;> omega) (by omega) (by rw [hj]; simpa using ew) ⟨rfl, fin⟩) hs
theorem ix_tup:IxR X (rIxT X.K):=by
 intro value slice pins s σ H x y v u Q I rx ry h hs
 obtain ⟨p,xs,i,z,rfl,rfl,hq,he,q⟩:=h
 cases rx
 obtain ⟨t,rfl⟩:=ry
 obtain ⟨its,r,pl,hz⟩:=I.tuple hq
 obtain ⟨j,h1,h2,h3,h4,h5⟩:=atI_get he
 obtain ⟨w,ew,rw'⟩:=r.get h2
 have hl:=r.length
 have hn:=line63
 have fin:EP X pins σ Q w s:=⟨z,H,I,rw',q⟩
 exact subscriptTail_builtinR (x:=w) pl.typeIs slot_tuple_getitem.lookup
  (getItem_tuple (j:=j) (Q:=fun r s'=>r=w∧EP X pins σ Q r s') pl (by omega) (by omega) (by rw [List.size_toArray,← hl];exact h1) (by simpa using ew) ⟨rfl,fin⟩) hs
theorem ix_str:IxR X rIxS:=by
 intro value slice pins s σ H x y v u Q I rx ry h hs
 obtain ⟨z,i,c,rfl,rfl,hz,he,q⟩:=h
 obtain ⟨t,rfl⟩:=rx
 obtain ⟨t',rfl⟩:=ry
 obtain ⟨j,h1,h2,h3,h4,h5⟩:=atI_get he
 have hl:z.cps.toList.length=z.length:=by simp [Str.length]
 rw [hl] at h1 h4 h5
 have hn:=line63
 exact tail_any (typeIs_str s z t) slot_str_getitem.lookup (getItem_str (c:=c) (by
  have e1:decide (i < -(2 ^ 63:Int))=false:=decide_eq_false (by omega)
  have e2:decide (i ≥ 2 ^ 63)=false:=decide_eq_false (by omega)
  rw [e1,e2,Bool.or_false]) (by rw [h1];simpa using h2) ⟨.str ⟨#[c]⟩,H,I.tok _,⟨_,rfl⟩,q⟩) hs
def rIx (K:PySem.W.Frag):R2:=fun x y H Q=>rIxL K x y H Q∨rIxT K x y H Q∨rIxS x y H Q
theorem ix_seq:IxR X (rIx X.K):=ix_list.or (ix_tup.or ix_str)
theorem mapSeq_set (its:List Value) (n j:Nat) (u:Value):Obj.mapSeq (·.setIfInBounds j u) { cls:=.type "list",data:=.seq its.toArray n }={ cls:=.type "list",data:=.seq (its.set j u).toArray n }:=by
 simp [Obj.mapSeq]
theorem Inv.lst {pins:List (Addr × Obj)} {σ:St} {H:Hp} {s:Shared} {p:Addr} {xs:List V} (I:Inv X pins σ H s) (h:H p=some (.lst xs)) :
  ∃ (its:List Value) (n:Nat),Vals xs its∧s.heap.get? p=some { cls:=.type "list",data:=.seq its.toArray n }∧xs.length≤sizeLine:=by
 obtain ⟨z,its,n,r,e⟩:=I.hok p _ h
 exact ⟨its,n,r,e,z⟩
theorem Inv.lstUpd {pins:List (Addr × Obj)} {σ:St} {H:Hp} {s:Shared} {p:Addr} {xs ys:List V} {its its':List Value} {n n':Nat} {f:Obj→Obj} (I:Inv X pins σ H s) (h:H p=some (.lst xs))
  (ho:s.heap.get? p=some { cls:=.type "list",data:=.seq its.toArray n }) (hf:f { cls:=.type "list",data:=.seq its.toArray n }={ cls:=.type "list",data:=.seq its'.toArray n' }) (r:Vals ys its') (hz:ys.length≤sizeLine) (t:Nat) :
  Inv X pins σ (upd H p (.lst ys)) { s with heap:=s.heap.update p f,toks:=t }:=by
 have e:(s.heap.update p f).get? p=some { cls:=.type "list",data:=.seq its'.toArray n' }:=by
  rw [Heap.get?_update_self f ho (by rw [hf] <;> rfl),hf]
 refine I.write (x:=p) (e:=p) (by rw [h];trivial) (.inl rfl) (fun b u hb q=>(Heap.get?_update_other _ _ (Ne.symm hb)).trans q) ⟨_,e⟩ ?_
 exact ⟨hz,its',n',r,e⟩
def rSetL:V→V→V→Hp→(Hp→Prop)→Prop:=fun o i v H Q=>∃ p xs k j,o=.ref p∧i=.int k∧H p=some (.lst xs)∧ixN xs.length k=some j∧Q (upd H p (.lst (xs.set j v)))
theorem set_list : PSet X rSetL := by
  intro pins s σ H o i v ov iv u Q I ro ri rv h
  obtain ⟨p, xs, k, j, rfl, rfl, hp, hj, q⟩ := h
  cases ro
  obtain ⟨t, rfl⟩ := ri
  obtain ⟨its, n, r, ho, hz⟩ := I.lst hp
  obtain ⟨h1, h2, h3, h4⟩ := ixN_seq hj
  have hl := r.length
  have hn := line63
  have I' : Inv X pins σ (upd H p (.lst (xs.set j v))) { s with heap := s.heap.update p (Obj.mapSeq (·.setIfInBounds j u)) } :=
    I.lstUpd hp ho (mapSeq_set its n j u) (r.set rv j) (by rw [List.length_set]; exact hz) s.toks
  by_cases h0 : 0 ≤ k
  · have hk : k.toNat = j := by
      rw [seqIndex_of h0 h4] at h1
      exact Option.some.inj h1
    exact PySem.W.ki_setAt ho h0 (by omega) (by rw [List.size_toArray, ← hl]; exact h4) (by rw [hk]; exact ⟨_, I', q⟩)
  · have hk : (k + (its.toArray.size : Int)).toNat = j := by
      rw [seqIndex_neg (by omega) h3] at h1
      rw [List.size_toArray, ← hl]
      exact Option.some.inj h1
    exact PySem.W.ki_setBack ho (by omega) (by rw [List.size_toArray, ← hl]; exact h3) (by omega) (by rw [hk]; exact ⟨_, I', q⟩)
theorem call_len_seq:CallR X (.builtin "len") (fun xs H Q=>∃ p ys,xs=[.ref p]∧(SqL X.K H p ys∨SqT X.K H p ys)∧Q (.int ys.length) H):=by
 intro pins s σ H xs us Q I r h
 obtain ⟨p,ys,rfl,hq,q⟩:=h
 obtain ⟨u,rfl,rx⟩:=vals1 r
 cases rx
 have hn:=line63
 rcases hq with hq | hq
 ·obtain ⟨its,r',pl,hz⟩:=I.list hq
  have hlen:=r'.length
  exact Calls.call_len_list pl.isList (by simp only [List.size_toArray] <;> omega) ⟨.int ys.length,H,I.tok _,⟨s.toks + 1,by rw [List.size_toArray,hlen]⟩,q⟩
 ·obtain ⟨its,r',pl,hz⟩:=I.tuple hq
  have hlen:=r'.length
  exact len_tuple pl (by simp only [List.size_toArray] <;> omega) ⟨.int ys.length,H,I.tok _,⟨s.toks + 1,by rw [List.size_toArray,hlen]⟩,q⟩
theorem CallR.or {f:Value} {r r':List V→Hp→VK→Prop} (h:CallR X f r) (h':CallR X f r'):CallR X f (fun xs H Q=>r xs H Q∨r' xs H Q):=by
 intro pins s σ H xs us Q I rs q
 rcases q with q | q
 ·exact h pins s σ H xs us Q I rs q
 ·exact h' pins s σ H xs us Q I rs q
theorem call_list_of : CallR X (.type "list") (fun xs H Q => ∃ p ys, xs = [.ref p] ∧ (SqL X.K H p ys ∨ SqT X.K H p ys) ∧ ∀ l, H l = none → Q (.ref l) (upd H l (.lst ys))) := by
  intro pins s σ H xs us Q I r h
  obtain ⟨p, ys, rfl, hq, q⟩ := h
  obtain ⟨u, rfl, rx⟩ := vals1 r
  cases rx
  have fin : ∀ (its : List Value), Vals ys its → ys.length ≤ sizeLine → ∀ (h' : Heap) (c' : Nat), (∀ b o', s.heap.get? b = some o' → h'.get? b = some o') →
      h'.get? s.heap.objs.size = some { cls := .type "list", dict := none, data := .seq its.toArray c', slots := #[] } → EP X pins σ Q (.ref s.heap.objs.size) { s with heap := h' } := fun its r' hz h' c' kp e =>
    ⟨.ref s.heap.objs.size, _, I.laid (t' := s.toks) kp (Nat.le_refl _) (show ObjOk X.prog X.w _ h' _ (.lst ys) from ⟨hz, its, c', r', e⟩), rfl, q _ (I.hok.fresh (Nat.le_refl _))⟩
  rcases hq with hq | hq
  · obtain ⟨its, r', pl, hz⟩ := I.list hq
    have hlen := r'.length
    obtain ⟨o, ho, hc, n, hd⟩ := pl.isList
    exact call_list_seq p (.inl rfl) ho hc hd (fun h' c' kp e => fin its r' hz h' c' kp e) (by simp only [List.size_toArray] <;> omega)
  · obtain ⟨its, r', pl, hz⟩ := I.tuple hq
    have hlen := r'.length
    obtain ⟨o, ho, hc, n, hd⟩ := pl
    exact call_list_seq p (.inr rfl) ho hc hd (fun h' c' kp e => fin its r' hz h' c' kp e) (by simp only [List.size_toArray] <;> omega)
def tyV (K : PySem.W.Frag) (T : String) (x : V) (H : Hp) : Prop := match x with
  | .str _ => T = "str"
  | .int _ => T = "int"
  | .ref p => (T = "list" ∧ ∃ xs, SqL K H p xs) ∨ (T = "tuple" ∧ ∃ o, K.lookup p = some o ∧ o.cls = .type "tuple" ∧ o.dict = none) ∨
      (T = "dict" ∧ ((∃ kvs, H p = some (.dK kvs)) ∨ ∃ kvs, H p = some (.dT kvs))) ∨ (T = "set" ∧ ∃ S n, H p = some (.set S n))
  | _ => False
theorem tyV_is {pins : List (Addr × Obj)} {σ : St} {H : Hp} {s : Shared} {T : String} {x : V} {v : Value} (I : Inv X pins σ H s) (r : RelV x v) (ty : tyV X.K T x H) :
    s.TypeIs v T ∧ ∀ a, v = .ref a → ∃ ob, s.heap.get? a = some ob ∧ ob.dict = none := by
  cases x with
  | str z =>
    obtain ⟨t, rfl⟩ := r
    cases (show T = "str" from ty)
    exact ⟨typeIs_str s z t, fun _ e => nomatch e⟩
  | int i =>
    obtain ⟨t, rfl⟩ := r
    cases (show T = "int" from ty)
    exact ⟨typeIs_int s i t, fun _ e => nomatch e⟩
  | ref p =>
    cases r
    rcases ty with ⟨rfl, xs, hq⟩ | ⟨rfl, o, hk, hc, hd⟩ | ⟨rfl, hk⟩ | ⟨rfl, S, n, hk⟩
    · obtain ⟨its, _, pl, _⟩ := I.list hq
      refine ⟨pl.isList.typeIs, fun a e => ?_⟩
      cases e
      obtain ⟨o, n, e, c, hd, _⟩ := pl
      exact ⟨o, e, hd⟩
    · refine ⟨⟨o, I.kIn p o hk, hc⟩, fun a e => ?_⟩
      cases e
      exact ⟨o, I.kIn _ o hk, hd⟩
    · have z : ∃ o, s.heap.get? p = some o ∧ o.ExactDict := by
        rcases hk with ⟨kvs, hk⟩ | ⟨kvs, hk⟩
        · obtain ⟨_, _, _, _, o, _, _, e, ex, _⟩ := I.hok p _ hk
          exact ⟨o, e, ex⟩
        · obtain ⟨_, _, _, _, o, _, _, e, ex, _⟩ := I.hok p _ hk
          exact ⟨o, e, ex⟩
      obtain ⟨o, e, ex⟩ := z
      refine ⟨⟨o, e, ex.1⟩, fun a e2 => ?_⟩
      cases e2
      exact ⟨o, e, ex.2.1⟩
    · obtain ⟨o, _, _, _, e, ex, _⟩ := I.hok p _ hk
      refine ⟨⟨o, e, ex.1⟩, fun a e2 => ?_⟩
      cases e2
      exact ⟨o, e, ex.2.1⟩
  | _ => exact False.elim ty
def tBM (K:PySem.W.Frag) (T:String) (r:V→List V→Hp→VK→Prop) (to:TE) (t:TA):TE:=fun σ H Q=>to σ H fun x H1=>tyV K T x H1∧t σ H1 fun xs H2=>r x xs H2 Q
variable {o e:Expr} {es:List Expr} {to:TE} {t:TA} {name:Str} {apos cpos:Pos} {T id:String} {r:V→List V→Hp→VK→Prop}
theorem pe_bm (pa:PlainAttrs T) (slot:Slot T name id) (hty:typeOf (.builtin id)=pure (.type "method_descriptor")) (hm:MtR X id r) (ho:PE X o to) (ha:PA X (e::es) t)
  (hbase:attributeBase o name X.env (eval o X.env)=eval o X.env:=by rfl)
  (hfew:((backTo cpos (starEach (e::es) X.env)).all (fun x=>!x.1) && (backToKw cpos (keywordEach [] X.env)).all (fun x=>x.1.isSome)
   && decide ((e::es).length + ([]:List Keyword).length + (if ([]:List Keyword).isEmpty then 0 else 1) < 30))=true:=by rfl)
  (hline:(apos.endLine == cpos.line)=true:=by rfl) (hs:starEach (e::es) X.env=(false,eval e X.env)::starEach es X.env:=by rfl) (hplain:(backTo cpos (starEach es X.env)).any (·.1)=false:=by rfl) :
  PE X (.Call (.Attribute o name apos) (e::es) [] cpos) (tBM X.K T r to t):=by
 intro pins s σ H Q I h
 refine wpAny_Call_method_late hbase hfew hline rfl (thn (ho pins s σ H _ I h) fun v s1 ⟨x,H1,I1,r1,ty,q1⟩=>?_)
 obtain ⟨h1,h2⟩:=tyV_is I1 r1 ty
 refine ⟨T,id,pa,slot,hty,h1,h2,?_⟩
 have hA:=ha cpos pins s1 σ H1 _ I1 q1
 rw [hs] at hA ⊢
 refine Calls.callWith_builtin (by show (false || (backTo cpos (starEach es X.env)).any (·.1))=false;rw [hplain] <;> rfl) (Calls.evalArgs_plain ?_)
 exact thn hA fun us s2 ⟨vs,H2,I2,r2,q2⟩=>hm pins s2 σ H2 x vs v us Q I2 r1 r2 q2
end
end L2
namespace L2
open PySem PySem.Spec PyProof.Rows
def MtM (X:Cx) (id:String) (r:V→List V→Hp→VK→Prop):Prop :=
 ∀ (pins:List (Addr × Obj)) (s:Shared) (σ:St) (H:Hp) (x:V) (xs:List V) (v:Value) (us:List Value) (Q:VK),Inv X pins σ H s→RelV x v→Vals xs us→r x xs H Q →
  wpAny (model X.prog X.w) X.A (call (.builtin id) (v::us)) (EP X pins σ Q) X.xe s
theorem Vals.one:∀ {x:V} {us:List Value},Vals [x] us→∃ u,us=[u]∧RelV x u
 | _,_,.cons r .nil=>⟨_,rfl,r⟩
theorem Vals.two:∀ {x y:V} {us:List Value},Vals [x,y] us→∃ u v,us=[u,v]∧RelV x u∧RelV y v
 | _,_,_,.cons r (.cons q .nil)=>⟨_,_,rfl,r,q⟩
theorem Vals.zero:∀ {us:List Value},Vals [] us→us=[]
 | _,.nil=>rfl
theorem Vals.eraseIdx:∀ {xs:List V} {us:List Value} (i:Nat),Vals xs us→Vals (xs.eraseIdx i) (us.eraseIdx i)
 | _,_,_,.nil=>.nil
 | _,_,0,.cons _ t=>t
 | _,_,i + 1,.cons r t=>.cons r (Vals.eraseIdx i t)
theorem Vals.rep {xs:List V} {us:List Value} (h:Vals xs us):∀ k:Nat,Vals (List.replicate k xs).flatten (List.replicate k us).flatten
 | 0=>.nil
 | k + 1=>by
  rw [List.replicate_succ,List.replicate_succ,List.flatten_cons,List.flatten_cons]
  exact Vals.append h (Vals.rep h k)
section
variable {X:Cx} {pins:List (Addr × Obj)} {σ:St} {H:Hp} {s:Shared} {l b:Addr} {xs ys zs:List V}
theorem Inv.lset {its its':List Value} {n:Nat} {f:Array Value→Array Value} {t':Nat} (I:Inv X pins σ H s) (hH:H l=some (.lst xs))
  (e:s.heap.get? l=some { cls:=.type "list",data:=.seq its.toArray n }) (hf:f its.toArray=its'.toArray) (hv:Vals ys its') (hz:ys.length≤sizeLine) :
  Inv X pins σ (upd H l (.lst ys)) { s with heap:=s.heap.update l (Obj.mapSeq f),toks:=t' }:=by
 have q:=PySem.IsL.update e f
 rw [hf] at q
 refine I.write (x:=l) (e:=l) (by rw [hH];exact trivial) (.inl rfl) (fun b' u hb hu=>(Heap.get?_update_other s.heap (Obj.mapSeq f) (Ne.symm hb)).trans hu) ⟨_,q⟩ ?_
 exact ⟨hz,its',_,hv,q⟩
theorem Inv.lnew {its:List Value} {t':Nat} (I:Inv X pins σ H s) (hv:Vals ys its) (hz:ys.length≤sizeLine) :
  Inv X pins σ (upd H s.heap.objs.size (.lst ys)) { s with heap:=s.heap.push { cls:=.type "list",data:=.seq its.toArray },toks:=t' } :=
 I.laid (fun _ _ q=>Heap.get?_push_of_some _ q) (Nat.le_refl _) ⟨hz,its,0,hv,Heap.get?_push_size _ rfl⟩
theorem Inv.fresh (I:Inv X pins σ H s):H s.heap.objs.size=none:=I.hok.fresh (Nat.le_refl _)
theorem Inv.lstM (I:Inv X pins σ H s) (hH:H l=some (.lst xs)):xs.length≤sizeLine∧∃ (its:List Value) (n:Nat),Vals xs its∧xs.length=its.length∧s.heap.get? l=some { cls:=.type "list",data:=.seq its.toArray n }:=by
 obtain ⟨z,its,n,r,e⟩:=I.hok l _ hH
 exact ⟨z,its,n,r,r.length,e⟩
theorem notLongL {n:Nat} (h:n≤sizeLine):Builtin.List.listTooLong n=false:=by
 unfold Builtin.List.listTooLong
 exact decide_eq_false (by omega)
end
section
variable {X:Cx}
def rAppend:V→List V→Hp→VK→Prop:=fun x vs H Q=>∃ l xs y,x=.ref l∧vs=[y]∧H l=some (.lst xs)∧xs.length < sizeLine∧Q .non (upd H l (.lst (xs++[y])))
theorem mt_append:MtM X "list.append" rAppend:=by
 intro pins s σ H x vs v us Q I rx rv h
 obtain ⟨l,xs,y,rfl,rfl,hH,hz,q⟩:=h
 cases rx
 obtain ⟨u,rfl,ru⟩:=rv.one
 obtain ⟨z,its,n,r,hl,e⟩:=I.lstM hH
 refine call_meets F.slot_list_append ⟨_,e,rfl⟩ F.entry_list_append (F.args_list_append_2 _ _) (PySem.list_append l its.toArray n u (by rw [List.size_toArray];omega)) ⟨e,?_⟩
 refine ⟨.non,_,I.lset (its':=its++[u]) hH e (by simp) (r.append (.cons ru .nil)) ?_,rfl,q⟩
 rw [List.length_append,List.length_singleton]
 omega
def rExtend:V→List V→Hp→VK→Prop:=fun x vs H Q=>∃ l b xs zs,x=.ref l∧vs=[.ref b]∧H l=some (.lst xs)∧H b=some (.lst zs)∧xs.length + zs.length≤sizeLine∧Q .non (upd H l (.lst (xs++zs)))
theorem mt_extend:MtM X "list.extend" rExtend:=by
 intro pins s σ H x vs v us Q I rx rv h
 obtain ⟨l,b,xs,zs,rfl,rfl,hH,hB,hz,q⟩:=h
 cases rx
 obtain ⟨u,rfl,ru⟩:=rv.one
 cases ru
 obtain ⟨z,its,n,r,hl,e⟩:=I.lstM hH
 obtain ⟨z2,its2,n2,r2,hl2,e2⟩:=I.lstM hB
 have hsz:its.toArray.size + its2.toArray.size≤sizeLine:=by rw [List.size_toArray,List.size_toArray];omega
 have hlong:¬ (!its.toArray.isEmpty && Builtin.List.listTooLong (its.toArray.size + its2.toArray.size))=true:=by
  rw [notLongL hsz,Bool.and_false]
  exact Bool.false_ne_true
 refine call_meets F.slot_list_extend ⟨_,e,rfl⟩ F.entry_list_extend (F.args_list_extend_2 _ _)
  (AutoSeq1.list_extend_list_list_0 l its.toArray n b its2.toArray n2 hlong (by rw [List.size_toArray];omega) (by omega)) ⟨e,e2,?_⟩
 refine ⟨.non,_,I.lset (its':=its++its2) hH e (by simp) (r.append r2) ?_,rfl,q⟩
 rw [List.length_append]
 omega
end
section
variable {prog:Program} {w:World} {A:Around} {E:Value→Shared→Prop} {s:Shared}
end
section
variable {X:Cx}
end
end L2
namespace Att
open PySem PySem.W PySem.Calls PyProof.Rows
theorem ints_of_wellAll {P:Params} {h:Heap}:∀ (ns:List Int) (vs:List Value),WellAll P h vs (ns.map WData.int)→IntsAre vs ns:=by
 intro ns
 induction ns with
 | nil =>
  intro vs w
  rw [List.map_nil] at w
  cases w
  exact .nil
 | cons n ns ih =>
  intro vs w
  rw [List.map_cons] at w
  cases w with
  | cons a b =>
   cases a
   exact .cons _ _ (ih _ b)
theorem script_of {l:OpenLaw} {n:Nat} (hn:l.most=some n) {P:Params} {h:Heap} {args:List WData} {vals:List Value}
  (hpre:l.row.toRowW.claim.pre args=true) (hwl:WellAll P h vals args) :
  ∃ a vs ns,vals=[Value.ref a]∧args=[WData.list (ns.map WData.int)]∧h.get? a=some { cls:=.type "list",data:=.seq vs.toArray }∧IntsAre vs ns∧ns.length≤n:=by
 have hsh:WShape.hasAll [] args [.list .int]=true:=(pre_splitW hpre).1
 have hc:l.pre.holds [] { args:=args }=true:=(pre_splitW hpre).2
 obtain ⟨d,r,rfl,h1,h2⟩:=hasAllW_cons hsh
 obtain rfl:=hasAllW_nil h2
 obtain ⟨xs,rfl,h3⟩:=hasW_list h1
 obtain ⟨ns,rfl⟩:=items_int h3
 have hlen:ns.length≤n:=by
  unfold OpenLaw.pre at hc
  have h4:(WTm.not (.lt (.lit (.int (n:Int))) (.len (.arg 0)))).holds [] { args:=[.list (ns.map .int)] }=true:=by
   have h4:=(holds_andW hc).1
   rw [hn] at h4
   exact h4
  have h5:=condW_of h4 (w_not (w_lt w_lit (w_len_list (w_arg rfl))))
  rw [List.length_map] at h5
  refine Nat.le_of_not_lt fun q=>?_
  have q':(n:Int) < ((ns.length:Nat):Int):=by omega
  first
   | (rw [decide_eq_true q'] at h5;exact absurd h5 (by decide))
   | (simp at h5;omega)
 cases hwl with
 | cons w1 w2 =>
  cases w2
  cases w1 with
  | list ho hall=>exact ⟨_,_,ns,rfl,rfl,ho,ints_of_wellAll ns _ hall,hlen⟩
theorem post_true (l:OpenLaw) (args:List WData):l.row.toRowW.claim.post args (.bool true) args=true :=
 postW_of (r:=l.row.toRowW) (X:=(true == true))
  (show WShape.has [] (.bool true) .bool=true by first | rfl | decide | simp [WShape.has,WShape.arms,WShape.armsAll])
  (show (WTm.eq .res (.lit (.bool true))).value [] { args:=args,res:=some (.bool true),after:=args }=some (.bool (true == true)) from w_eq_bool (w_res rfl) w_lit) rfl
theorem attach_call {l:OpenLaw} {n:Nat} {q:Program} {loose:List Str} {XP:(Str→Option Value)→Heap→Prop} {YP:World→Heap→Prop} {d:DefRec}
  (hn:l.most=some n) (hdf:d.params.defaults=[])
  (call:∀ (w:World) (s₀ s₁:Shared) (mg mb:Str→Option Value) (fa:Addr) (o:Obj) (pm cd doc:Value) (a:Addr) (vs:List Value) (ns:List Int),
   Ground q loose [] XP w s₀ mg mb s₁.heap→YP w s₁.heap →
   s₁.heap.get? fa=some o→o.data=.func (docDef d.name d.params d.body d.scope pm cd doc)→s₁.heap.CodeRec cd d.name→mg d.name=some (.ref fa) →
   s₁.heap.get? a=some { cls:=.type "list",data:=.seq vs.toArray }→IntsAre vs ns→ns.length≤n→s₁.gens=#[] →
   codeAny (model l.prog w) callerA (.call (.ref fa) ⟨[.ref a],[]⟩) (fun r s'=>r=.ok (.ret (.bool true))∧OldK s₁.heap s'.heap∧s'.os=s₁.os∧AllBare s'.gens) s₁) :
  WalkO q loose XP YP l.row.toRowW d [] (fun f vs=>PySem.call f vs):=by
 intro w s₀ s₁ mg mb G Y fa o pm cd doc dV kV ho hd hcd hD hmg hg args vals as hpre hlay hrd hwl hlo
 obtain rfl:dV=.none:=Dflts.none hD hdf
 obtain rfl:kV=.none:=Dflts.noKw hD
 obtain ⟨a,vs,ns,rfl,rfl,hobj,hints,hlen⟩:=script_of hn hpre hwl
 refine enter_call (codeAny_mono (call w s₀ s₁ mg mb fa o pm cd doc a vs ns G Y ho (fd_plain hd) hcd hmg hobj hints hlen hg) fun r s' hq=>?_)
 obtain ⟨rfl,h2,h3,h4⟩:=hq
 exact ⟨.inl ⟨.bool true,.bool true,[],rfl,fun _=>rfl,.bool true,post_true l _,fun _=>⟨List.Pairwise.nil,fun _ hm=>(nomatch hm)⟩⟩,h2,h3,h4⟩
section
variable {prog:Program} {w:World} {A:Around} {E:Value→Shared→Prop} {s:Shared} {K:Frag}
end
end Att
namespace L2
open PySem PySem.Spec PyProof.Rows
theorem vals_ints:∀ {vs:List Value} {ns:List Int},IntsAre vs ns→Vals (ns.map V.int) vs
 | _,_,.nil=>.nil
 | _,_,.cons n t h=>.cons ⟨t,rfl⟩ (vals_ints h)
def Only (H:Hp):Prop:=∀ b,H b=none∨∃ o xs,H b=some (.frz o (.lst xs))
theorem law_call {P : Program} {w : World} {K : PySem.W.Frag} {mg mb : Str → Option Value} {CX : CXT} {k : Nat} {fa a : Addr} {fd : FuncData} {x : Str} {sp : Sp} {s₁ : Shared} {vs : List Value} {ns : List Int}
    (KX : K.In s₁.heap) (hns : s₁.heap.Ns mainGlobals mg) (hb : s₁.heap.Ns builtinsNs mb) (hbb : ∀ x : Str, x ≠ "__name__" → mb x = bootBuiltins x) (hlim : s₁.heap.NoLimit) (hg : s₁.gens = #[])
    (ha : s₁.heap.get? a = some { cls := .type "list", data := .seq vs.toArray }) (hi : IntsAre vs ns) (hl : ns.length ≤ sizeLine) (hr : Room k callerA)
    (F : ∀ base : Heap, K.In base → base.Ns mainGlobals mg → FnOk P w K mg base CX k fa fd [x] sp) (hbind : ∀ (s : Shared) (u : Value), BindsTo s fd ⟨[u], []⟩ [(x, u)])
    (hsp : ∀ H : Hp, Only H → SqL K H a (ns.map V.int) → sp [.ref a] H (fun v _ => v = .bl true) fun _ _ _ => False)
    (hCX : ∀ H e s', CX [] H s₁ (fun _ _ _ => False) e s' → False) :
    codeAny (model P w) callerA (.call (.ref fa) ⟨[.ref a], []⟩) (fun r s' => r = .ok (.ret (.bool true)) ∧ OldK s₁.heap s'.heap ∧ s'.os = s₁.os ∧ AllBare s'.gens) s₁ := by
  have rv := vals_ints hi
  have lenV := hi.length
  have core : ∀ H : Hp, Only H → SqL K H a (ns.map V.int) → HOk P w H s₁.heap → (∀ b, H b ≠ none → b = a) → (H a ≠ none → K.lookup a = none) →
      codeAny (model P w) callerA (.call (.ref fa) ⟨[.ref a], []⟩) (fun r s' => r = .ok (.ret (.bool true)) ∧ OldK s₁.heap s'.heap ∧ s'.os = s₁.os ∧ AllBare s'.gens) s₁ := by
    intro H hO hS hok hA hK
    have base_of : ∀ {b : Addr} {o : Obj}, s₁.heap.get? b = some o → H b = none → (hidT s₁.heap H).get? b = some o := fun e n => hidT_get e n
    have noA : ∀ {b : Addr} {o : Obj} {es : Array DictEntry} {ep : Nat}, s₁.heap.get? b = some o → o.data = .dict es ep → H b = none := fun {b o es ep} e d => by
      cases q : H b with
      | none => rfl
      | some u =>
        have e' : b = a := hA b (by rw [q]; simp)
        subst e'
        rw [ha] at e; cases e
        have d' : Data.seq vs.toArray _ = Data.dict es ep := d
        cases d'
    have nsK : ∀ {b : Addr} {m : Str → Option Value}, s₁.heap.Ns b m → (hidT s₁.heap H).Ns b m := fun {b m} ⟨o, es, ep, e, d, r⟩ => ⟨o, es, ep, base_of e (noA e d), d, r⟩
    have hKb : K.In (hidT s₁.heap H) := fun b o e => base_of (KX b o e) (by
      cases q : H b with
      | none => rfl
      | some u =>
        have e' : b = a := hA b (by rw [q]; simp)
        subst e'
        rw [hK (by rw [q]; simp)] at e; cases e)
    have hM : Mod K mg (hidT s₁.heap H) := ⟨hKb, nsK hns, ⟨mb, nsK hb, hbb⟩, let ⟨mc, h1, h2⟩ := hlim; ⟨mc, nsK h1, h2⟩⟩
    have e0 : Env0 P w K mg (hidT s₁.heap H) callerA [] s₁ H := ⟨rfl, hM, fun b o e => of_hidT e, Nat.le_of_eq (hidT_size _ _), trivial, fun b hb => absurd (show b ∈ ([] : List Addr) from hb) (by simp), hok, .of_eq hg⟩
    refine codeAny_mono ((F _ hKb (nsK hns)).run callerA [] s₁ H ⟨[.ref a], []⟩ [.ref a] [.ref a] _ _ hr e0 (hbind s₁ (.ref a)) (.cons rfl .nil) (hsp H hO hS)) fun r s' h => ?_
    cases r with
    | error e => exact (hCX H e s' h).elim
    | ok fl =>
      cases fl with
      | next => exact False.elim h
      | brk => exact False.elim h
      | cont => exact False.elim h
      | ret u =>
        obtain ⟨v, H', os, bare, un, hok', r', q⟩ := h
        have q' : v = .bl true := q
        subst q'
        obtain rfl : u = Value.bool true := r'
        refine ⟨rfl, OldK.of_keep fun b o e => ?_, os, bare⟩
        cases q : H b with
        | none => exact un.keep b o e q (by intro z; exact absurd (show b ∈ ([] : List Addr) from z) (by simp)) (by simp)
        | some u =>
          rcases hO b with z | ⟨ob, xs, z⟩
          · rw [q] at z; cases z
          · have z2 := un.frzs b ob _ z
            obtain ⟨e1, _⟩ := hok b _ z
            obtain ⟨e2, _⟩ := hok' b _ z2
            rw [e] at e1; cases e1
            exact e2
  cases hk : K.lookup a with
  | some o =>
    have e := KX a o hk
    rw [ha] at e
    cases e
    refine core (fun _ => none) (fun _ => .inl rfl) (.inr ⟨_, vs.toArray, _, hk, rfl, rfl, rfl, by rw [List.size_toArray, lenV]; exact hl, by simpa using rv⟩) (fun b u z => by have z' : (none : Option HO) = some u := z; cases z') (fun b z => absurd rfl z) fun z => absurd rfl z
  | none =>
    refine core (fun b => if b = a then some (.frz { cls := .type "list", data := .seq vs.toArray } (.lst (ns.map V.int))) else none) (fun b => ?_) (.inl (.inr ⟨{ cls := .type "list", data := .seq vs.toArray }, if_pos rfl⟩)) (fun b u z => ?_) (fun b z => ?_) fun _ => hk
    · by_cases hb : b = a
      · exact .inr ⟨_, _, if_pos hb⟩
      · exact .inl (if_neg hb)
    · by_cases hb : b = a
      · have z' := (if_pos hb).symm.trans z
        cases z'
        subst hb
        exact ⟨ha, by rw [List.length_map]; exact hl, vs, _, rv, ha⟩
      · have z' := (if_neg hb).symm.trans z
        cases z'
    · by_cases hb : b = a
      · exact hb
      · exact absurd (if_neg hb) z
end L2
namespace L2
open PySem PySem.Spec PyProof.Rows
theorem walk_of {l:PySem.W.OpenLaw} {n k:Nat} {q:Program} {loose:List Str} {XP:(Str→Option Value)→Heap→Prop} {YP:World→Heap→Prop} {d:DefRec} {K:Params→PySem.W.Frag} {CX:World→CXT} {sp:World→Sp} {x:Str}
  (hn:l.most=some n) (hn2:n≤sizeLine) (hdf:d.params.defaults=[]) (hr:Room k callerA)
  (hY:∀ (w:World) (h:Heap),YP w h→(K w.params).In h)
  (F:∀ (w:World) (mg:Str→Option Value) (fa:Addr) (h:Heap),(K w.params).In h→h.Ns mainGlobals mg→mg d.name=some (.ref fa) →
   ∃ fd:FuncData,(∀ (s:Shared) (u:Value),BindsTo s fd ⟨[u],[]⟩ [(x,u)]) ∧
    ∀ base:Heap,(K w.params).In base→base.Ns mainGlobals mg→FnOk l.prog w (K w.params) mg base (CX w) k fa fd [x] (sp w))
  (hsp:∀ (w:World) (H:Hp) (a:Addr) (ns:List Int),ns.length≤n→Only H→SqL (K w.params) H a (ns.map V.int)→sp w [.ref a] H (fun v _=>v=.bl true) fun _ _ _=>False)
  (hCX:∀ (w:World) (H:Hp) (s:Shared) (e:Value) (s':Shared),CX w [] H s (fun _ _ _=>False) e s'→False) :
  PySem.W.WalkO q loose XP YP l.row.toRowW d [] (fun f vs=>PySem.call f vs):=by
 refine Att.attach_call hn hdf fun w s₀ s₁ mg mb fa o pm cd doc a vs ns G Y ho hd hcd hmg hobj hints hlen hg=>?_
 have KX:=hY w _ Y
 obtain ⟨fd,hb,hF⟩:=F w mg fa _ KX G.T.g hmg
 exact law_call KX G.T.g G.T.b G.T.builtins G.T.nolimit hg hobj hints (Nat.le_trans hlen hn2) hr hF hb (fun H hO hS=>hsp w H a ns hlen hO hS) fun H e s'=>hCX w H s₁ e s'
end L2
namespace L2
open PySem PySem.Spec PyProof.Rows
def defArgs (s:Stmt):Arguments:=match s with
 | .FunctionDef _ a _ _ _ _ _ _ _ _=>a
 | _=>{ posonlyargs:=[],args:=[],vararg:=none,kwonlyargs:=[],kw_defaults:=[],kwarg:=none,defaults:=[] }
def defBody (s:Stmt):List Stmt:=match s with
 | .FunctionDef _ _ b _ _ _ _ _ _ _=>b
 | _=>[]
def defScope (s:Stmt):Scope:=match s with
 | .FunctionDef _ _ _ _ _ _ sc _ _ _=>sc
 | _=>{ kind:=.function,names:=[],isGenerator:=false,isCoroutine:=false }
abbrev CX0:CXT:=fun _ _ _ _ _ _=>False
abbrev E0:XK:=fun _ _ _=>False
theorem pass0 {X:Cx}:Passes CX0 X E0:=fun _ _ _ _ _ _ _ h=>h.elim
structure Fun (K:PySem.W.Frag) (x qual:Str) (st:Stmt) (f:Addr) (fd:FuncData):Prop where
 ex:∃ (oc:Value) (od:Option Addr) (kV doc pm:Value) (an:Option Addr) (cdv ct:Value) (osl:Array (Option Value)),
  fd=PySem.W.fnOf x qual (defArgs st) (defBody st) (defScope st) .none kV doc pm an cdv ct∧K.lookup f=some ⟨oc,od,.func fd,osl⟩∧PySem.W.codeIn K cdv qual=true
 kp:PySem.W.keepIn K (.ref f)=true
section
variable {P:Program} {w:World} {K:PySem.W.Frag} {mg:Str→Option Value} {base:Heap}
theorem Fun.ok {x qual:Str} {st:Stmt} {f:Addr} {fd:FuncData} {N ps:List Str} {k:Nat} {sp:Sp} (F:Fun K x qual st f fd) (S:FnScope N ps (defScope st)) (len:∀ vs H Q E,sp vs H Q E→vs.length=ps.length)
  (hbody:∀ (cdv:Value) (A:Around) (outer:List Env) (s:Shared) (H:Hp) (vs:List V) (Q:VK) (E:XK),Room k (A.deeper (envOfC qual (defScope st) s.heap.objs.size f cdv))→sp vs H Q E →
   ∃ t,PSs (cxOf CX0 P w K mg base N qual (defScope st) f cdv A outer s H E).nox (defBody st) t∧t { nx:=fun _ H'=>Q .non H',rt:=Q } (start N vs) H):FnOk P w K mg base CX0 (k + 1) f fd ps sp:=by
 obtain ⟨oc,od,kV,doc,pm,an,cdv,ct,osl,rfl,lk,hcd⟩:=F.ex
 refine fn_of lk hcd S len fun A outer s H vs Q E hr hsp=>?_
 obtain ⟨t,h,q⟩:=hbody cdv A outer s H vs Q E hr hsp
 exact ⟨t,h.nox,q⟩
theorem Fun.binds {x qual:Str} {st:Stmt} {f:Addr} {fd:FuncData} {ps:List Str} (F:Fun K x qual st f fd)
  (h:∀ (kV doc pm:Value) (an:Option Addr) (cdv ct:Value) (us:List Value),us.length=ps.length→bindArgs (PySem.W.fnOf x qual (defArgs st) (defBody st) (defScope st) .none kV doc pm an cdv ct) ⟨us,[]⟩=pure (ps.zip us)):Binds K fd ps []:=by
 obtain ⟨oc,od,kV,doc,pm,an,cdv,ct,osl,rfl,lk,hcd⟩:=F.ex
 exact .all (h kV doc pm an cdv ct)
theorem fun_mk {x qual:Str} {st:Stmt} {f:Addr} {oc:Value} {od an:Option Addr} {osl:Array (Option Value)} {kV doc pm cdv ct:Value} (l:K.lookup f=some ⟨oc,od,.func (PySem.W.fnOf x qual (defArgs st) (defBody st) (defScope st) .none kV doc pm an cdv ct),osl⟩)
  (c:PySem.W.codeIn K cdv qual=true) (k:PySem.W.keepIn K (.ref f)=true):Fun K x qual st f (PySem.W.fnOf x qual (defArgs st) (defBody st) (defScope st) .none kV doc pm an cdv ct):=⟨⟨oc,od,kV,doc,pm,an,cdv,ct,osl,rfl,l,c⟩,k⟩
end
section
variable {X:Cx}
theorem pv (i:Nat) {x:Str} {pos:Pos} (hN:X.N[i]?=some x:=by rfl) (hv:Vis X.env.scope x:=by first | exact Or.inl rfl | exact Or.inr (Or.inl rfl) | exact Or.inr (Or.inr rfl)) (hd:(x == ("__debug__":Str))=false:=by decide)
  (hcd:(x == ("__classdict__":Str))=false:=by decide):PE X (.Name x pos) (tVar i):=pe_var hN hv hd hcd
end
theorem iteF {A B:Prop} (h:B):if false=true then A else B:=by
 rw [if_neg Bool.false_ne_true]
 exact h
theorem iteT {A B:Prop} (h:A):if true=true then A else B:=by
 rw [if_pos rfl]
 exact h
def Same (H H':Hp):Prop:=∀ b o,H b=some o→H' b=some o
theorem Same.refl (H:Hp):Same H H:=fun _ _ h=>h
theorem Same.trans {H H1 H2:Hp} (a:Same H H1) (b:Same H1 H2):Same H H2:=fun c o h=>b c o (a c o h)
theorem Same.free {H H':Hp} (e:Same H H') {l:Addr} (h:H' l=Option.none):H l=Option.none:=by
 cases q:H l with
 | none=>rfl
 | some o =>
  rw [e l o q] at h
  cases h
theorem Same.seq {K:PySem.W.Frag} {H H':Hp} {a:Addr} {xs:List V} (e:Same H H') (h:SqL K H a xs):SqL K H' a xs:=by
 rcases h with (h | ⟨o,h⟩) | h
 ·exact .inl (.inl (e _ _ h))
 ·exact .inl (.inr ⟨o,e _ _ h⟩)
 ·exact .inr h
end L2
set_option linter.all false
set_option Elab.async false
namespace PV
open PySem (Str)
inductive D where
 | non | bl (b:Bool) | int (i:Int) | str (x:Str) | lst (xs:List D) | tup (xs:List D) | dct (kvs:List (Int × Int))
 deriving Inhabited
inductive Sl where
 | un | sh (d:D) | fr (d:D) | ow (ds:List D) | tab (rows:List (List D)) | dc (kvs:List (Int × Int)) | nw (ds:List D) | jk (d:D) | jl (n:Nat)
 deriving Inhabited
def lim:Nat:=100000
mutual
def D.dep:D→Nat
 | .lst xs=>D.deps xs + 1
 | .tup xs=>D.deps xs + 1
 | .dct _=>100
 | _=>0
def D.deps:List D→Nat
 | []=>0
 | x::xs=>max (D.dep x) (D.deps xs)
end
mutual
def eqD:D→D→Bool
 | .non,.non=>true
 | .bl a,.bl b=>a == b
 | .bl a,.int b=>(if a then 1 else 0) == b
 | .int a,.bl b=>a == (if b then 1 else 0)
 | .int a,.int b=>a == b
 | .str a,.str b=>a == b
 | .lst a,.lst b=>eqDs a b
 | .tup a,.tup b=>eqDs a b
 | .dct a,.dct b=>decide (a=b)
 | _,_=>false
def eqDs:List D→List D→Bool
 | [],[]=>true
 | x::xs,y::ys=>eqD x y && eqDs xs ys
 | _,_=>false
end
abbrev Env:=List Sl
abbrev Ex:=Env→Option D
abbrev Tx:=Env→Option Bool
abbrev Lx:=Env→Option (List D)
def Sl.val:Sl→Option D
 | .un=>none
 | .sh d=>some d
 | .fr d=>some d
 | .ow ds=>some (.lst ds)
 | .tab rows=>some (.lst (rows.map .lst))
 | .nw ds=>some (.lst ds)
 | _=>none
def Sl.shd:Sl→Option D
 | .sh d=>some d
 | .fr d=>some d
 | _=>none
def eC (d:D):Ex:=fun _=>some d
def eVar (i:Nat):Ex:=fun env=>env[i]?.bind Sl.shd
def Sl.frd:Sl→Option D
 | .fr d=>some d
 | _=>none
def eVarF (i:Nat):Ex:=fun env=>env[i]?.bind Sl.frd
def eVarR (i:Nat):Ex:=fun env=>env[i]?.bind Sl.val
def Sl.vo:Sl→Option D
 | .sh d=>some d
 | .fr d=>some d
 | .ow ds=>some (.lst ds)
 | .nw ds=>some (.lst ds)
 | _=>none
def eVarO (i:Nat):Ex:=fun env=>env[i]?.bind Sl.vo
def e2I (f:Int→Int→Option D) (a b:Ex):Ex:=fun env=>match a env,b env with
 | some (.int i),some (.int j)=>f i j
 | _,_=>none
def iSub (i j:Int):Option D:=some (.int (i - j))
def iMul (i j:Int):Option D:=if (-18446744073709551616 < i∧i < 18446744073709551616)∨(-18446744073709551616 < j∧j < 18446744073709551616) then some (.int (i * j)) else none
def iMod (i j:Int):Option D:=if 0 < j then some (.int (i % j)) else none
def iDiv (i j:Int):Option D:=if 0 < j∧j < 1073741824 then some (.int (i / j)) else none
def t2I (p:Int→Int→Bool) (a b:Ex):Tx:=fun env=>match a env,b env with
 | some (.int i),some (.int j)=>some (p i j)
 | _,_=>none
def pLt (i j:Int):Bool:=decide (i < j)
def pGt (i j:Int):Bool:=decide (j < i)
def pGe (i j:Int):Bool:=decide (j≤i)
def tEq (a b:Ex):Tx:=fun env=>match a env,b env with
 | some x,some y=>if x.dep≤8∧y.dep≤8 then some (eqD x y) else none
 | _,_=>none
def tNe (a b:Ex):Tx:=fun env=>match a env,b env with
 | some x,some y=>if x.dep≤8∧y.dep≤8 then some (!eqD x y) else none
 | _,_=>none
def inD (x:D) (ys:List D):Bool:=ys.any fun y=>eqD y x
def tIn (a b:Ex):Tx:=fun env=>match a env,b env with
 | some x,some (.lst ys)=>if D.deps ys≤8∧x.dep≤8 then some (inD x ys) else none
 | some x,some (.tup ys)=>if D.deps ys≤8∧x.dep≤8 then some (inD x ys) else none
 | _,_=>none
def tNi (a b:Ex):Tx:=fun env=>match tIn a b env with
 | some k=>some (!k)
 | none=>none
def D.isN:D→Bool
 | .non=>true
 | _=>false
def tIsN (a:Ex):Tx:=fun env=>match a env with
 | some x=>some x.isN
 | none=>none
def tNoN (a:Ex):Tx:=fun env=>match a env with
 | some x=>some (!x.isN)
 | none=>none
def tAnd (a b:Tx):Tx:=fun env=>match a env with
 | some true=>b env
 | some false=>some false
 | none=>none
def tOr (a b:Tx):Tx:=fun env=>match a env with
 | some true=>some true
 | some false=>b env
 | none=>none
def tNot (a:Tx):Tx:=fun env=>match a env with
 | some k=>some (!k)
 | none=>none
def tB (a:Ex):Tx:=fun env=>match a env with
 | some (.bl k)=>some k
 | _=>none
def eB (a:Tx):Ex:=fun env=>match a env with
 | some k=>some (.bl k)
 | none=>none
def evs:List Ex→Env→Option (List D)
 | [],_=>some []
 | e::es,env=>match e env,evs es env with
  | some d,some ds=>some (d::ds)
  | _,_=>none
def eLst (es:List Ex):Ex:=fun env=>match evs es env with
 | some ds=>some (.lst ds)
 | none=>none
def eTup (es:List Ex):Ex:=fun env=>match evs es env with
 | some ds=>some (.tup ds)
 | none=>none
def eCall (φ:List D→Option D) (es:List Ex):Ex:=fun env=>match evs es env with
 | some ds=>φ ds
 | none=>none
def eF1 (φ:D→Option D) (a:Ex):Ex:=fun env=>match a env with
 | some x=>φ x
 | none=>none
def eF2 (φ:D→D→Option D) (a b:Ex):Ex:=fun env=>match a env,b env with
 | some x,some y=>φ x y
 | _,_=>none
def ixN (n:Nat) (i:Int):Option Nat:=if 0≤i then (if i < n then some i.toNat else none) else if -(n:Int)≤i then some (i + n).toNat else none
def atD (xs:List D) (i:Int):Option D:=(ixN xs.length i).bind fun j=>xs[j]?
def fIx:D→D→Option D
 | .lst xs,.int i=>atD xs i
 | .tup xs,.int i=>atD xs i
 | _,_=>none
def eIx (a b:Ex):Ex:=eF2 fIx a b
def fAdd:D→D→Option D
 | .int i,.int j=>some (.int (i + j))
 | .lst xs,.lst ys=>if xs.length + ys.length≤lim then some (.lst (xs++ys)) else none
 | _,_=>none
def eAdd (a b:Ex):Ex:=eF2 fAdd a b
def fLen:D→Option D
 | .lst xs=>some (.int xs.length)
 | .tup xs=>some (.int xs.length)
 | _=>none
def fList:D→Option D
 | .lst xs=>some (.lst xs)
 | .tup xs=>some (.lst xs)
 | _=>none
def allB:List D→Option Bool
 | []=>some true
 | .bl b::xs=>match allB xs with
  | some c=>some (b && c)
  | none=>none
 | _::_=>none
def fAll:D→Option D
 | .lst xs=>match allB xs with
  | some b=>some (.bl b)
  | none=>none
 | _=>none
def ints?:List D→Option (List Int)
 | []=>some []
 | .int i::xs=>match ints? xs with
  | some r=>some (i::r)
  | none=>none
 | _::_=>none
def addv (σ:List Int) (v:Int):List Int:=if v ∈ σ then σ else σ++[v]
def seen (vs:List Int):List Int:=vs.foldl addv []
def ins1 (x:Int):List Int→List Int
 | []=>[x]
 | y::ys=>if x≤y then x::y::ys else y::ins1 x ys
def srt:List Int→List Int
 | []=>[]
 | x::xs=>ins1 x (srt xs)
def fSortSet:D→Option D
 | .lst xs=>match ints? xs with
  | some ns=>if ns.length≤3000∧(seen ns).length < 64 then some (.lst ((srt (seen ns)).map .int)) else none
  | none=>none
 | _=>none
def ltL:List Int→List Int→Bool
 | [],[]=>false
 | [],_::_=>true
 | _::_,[]=>false
 | x::xs,y::ys=>if x=y then ltL xs ys else decide (x < y)
def insB {α:Type} (k:α→List Int) (x:α):List α→List α
 | []=>[x]
 | y::ys=>if ltL (k y) (k x) then y::insB k x ys else x::y::ys
def srtB {α:Type} (k:α→List Int):List α→List α
 | []=>[]
 | x::xs=>insB k x (srtB k xs)
def rowI?:D→Option (List Int)
 | .lst xs=>ints? xs
 | _=>none
def rowsI?:List D→Option (List (List Int))
 | []=>some []
 | x::xs=>match rowI? x,rowsI? xs with
  | some r,some rs=>some (r::rs)
  | _,_=>none
def fSort:D→Option D
 | .lst xs=>match ints? xs with
  | some ns=>if ns.length < 64 then some (.lst ((srt ns).map .int)) else none
  | none=>match rowsI? xs with
   | some rs=>if rs.length < 64 then some (.lst ((srtB (fun r=>r) rs).map fun r=>.lst (r.map .int))) else none
   | none=>none
 | _=>none
def keyD:D→Option (List Int)
 | .tup [.int n,.lst xs]=>match ints? xs with
  | some r=>some (n::r)
  | none=>none
 | _=>none
def keysD (φ:List D→Option D):List D→Option (List (List Int × D))
 | []=>some []
 | x::xs=>match φ [x],keysD φ xs with
  | some k,some ks=>match keyD k with
   | some l=>some ((l,x)::ks)
   | none=>none
  | _,_=>none
def scalD:D→Bool
 | .lst _=>false
 | .tup _=>false
 | .dct _=>false
 | _=>true
def eSc (f:Ex):Ex:=fun env=>match f env with
 | some d=>if scalD d then some d else none
 | none=>none
def eFl (f:Ex):Ex:=fun env=>match f env with
 | some (.lst ds)=>if ds.all scalD then some (.lst ds) else none
 | _=>none
def idxD (x:D):List D→Option Nat
 | []=>none
 | y::ys=>if eqD y x then some 0 else match idxD x ys with
  | some j=>some (j + 1)
  | none=>none
def fIndex:D→D→Option D
 | .lst ys,x=>if D.deps ys≤8∧x.dep≤8 then (match idxD x ys with
  | some j=>some (.int j)
  | none=>none) else none
 | _,_=>none
def iOf (a:Ex):Lx:=fun env=>match a env with
 | some (.lst xs)=>some xs
 | some (.tup xs)=>some xs
 | _=>none
def rangeD (lo:Int) (n:Nat):List D:=(List.range n).map fun k=>.int (lo + (k:Nat))
def iRng (a:Ex):Lx:=fun env=>match a env with
 | some (.int j)=>if -(lim:Int)≤j∧j≤lim then some (rangeD 0 j.toNat) else none
 | _=>none
def fRangeList:D→Option D
 | .int j=>if -(lim:Int)≤j∧j≤lim then some (.lst (rangeD 0 j.toNat)) else none
 | _=>none
def compL (i:Nat) (c:Tx) (e:Ex) (env:Env):List D→Option (List D)
 | []=>some []
 | d::ds=>match c (env.set i (.sh d)) with
  | some true=>match e (env.set i (.sh d)),compL i c e env ds with
   | some x,some xs=>some (x::xs)
   | _,_=>none
  | some false=>compL i c e env ds
  | none=>none
def tTrue:Tx:=fun _=>some true
def eComp (i:Nat) (it:Lx) (c:Tx) (e:Ex):Ex:=fun env=>match it env with
 | some ds=>if ds.length≤lim then (match compL i c e env ds with
  | some xs=>some (.lst xs)
  | none=>none) else none
 | none=>none
inductive Out where
 | nx | bk | ct | rt (d:D)
abbrev St:=Env→Option (Out × Env)
def sSkip:St:=fun env=>some (.nx,env)
def sSet (i:Nat) (e:Ex):St:=fun env=>match e env with
 | some d=>some (.nx,env.set i (.sh d))
 | none=>none
def sSetF (i:Nat) (e:Ex):St:=fun env=>match e env with
 | some d=>some (.nx,env.set i (.fr d))
 | none=>none
def sOwn (i:Nat) (e:Ex):St:=fun env=>match e env with
 | some (.lst ds)=>some (.nx,env.set i (.ow ds))
 | _=>none
def rows?:List D→Option (List (List D))
 | []=>some []
 | .lst r::xs=>match rows? xs with
  | some rs=>some (r::rs)
  | none=>none
 | _::_=>none
def sTab (i:Nat) (e:Ex):St:=fun env=>match e env with
 | some (.lst ds)=>match rows? ds with
  | some rs=>some (.nx,env.set i (.tab rs))
  | none=>none
 | _=>none
def sFrz (i:Nat):St:=fun env=>match env[i]? with
 | some (.ow ds)=>some (.nx,env.set i (.sh (.lst ds)))
 | some (.tab rs)=>some (.nx,env.set i (.sh (.lst (rs.map .lst))))
 | some (.nw ds)=>some (.nx,env.set i (.fr (.lst ds)))
 | some (.dc kvs)=>some (.nx,env.set i (.sh (.dct kvs)))
 | some (.sh _)=>some (.nx,env)
 | some (.fr _)=>some (.nx,env)
 | _=>none
def sApp (i:Nat) (e:Ex):St:=fun env=>match env[i]?,e env with
 | some (.ow ds),some d=>if ds.length < lim then some (.nx,env.set i (.ow (ds++[d]))) else none
 | _,_=>none
def sNew (i:Nat) (e:Ex):St:=fun env=>match e env with
 | some (.lst ds)=>some (.nx,env.set i (.nw ds))
 | _=>none
def sAppN (i:Nat) (e:Ex):St:=fun env=>match env[i]?,e env with
 | some (.nw ds),some d=>if ds.length < lim then some (.nx,env.set i (.nw (ds++[d]))) else none
 | _,_=>none
def sExt (i:Nat) (e:Ex):St:=fun env=>match env[i]?,e env with
 | some (.ow ds),some (.lst xs)=>if ds.length + xs.length≤lim then some (.nx,env.set i (.ow (ds++xs))) else none
 | _,_=>none
def sIns (i:Nat) (a e:Ex):St:=fun env=>match env[i]?,a env,e env with
 | some (.ow ds),some (.int k),some d=>if 0≤k∧k≤ds.length∧ds.length < lim then some (.nx,env.set i (.ow (ds.insertIdx k.toNat d))) else none
 | _,_,_=>none
def sPut2 (i:Nat) (a b e:Ex):St:=fun env=>match env[i]?,e env,a env,b env with
 | some (.tab rs),some d,some (.int k),some (.int l)=>match ixN rs.length k with
  | some j=>match rs[j]? with
   | some r=>match ixN r.length l with
    | some m=>some (.nx,env.set i (.tab (rs.set j (r.set m d))))
    | none=>none
   | none=>none
  | none=>none
 | _,_,_,_=>none
def sDo (e:Ex):St:=fun env=>match e env with
 | some _=>some (.nx,env)
 | none=>none
def sRet (e:Ex):St:=fun env=>match e env with
 | some d=>some (.rt d,env)
 | none=>none
def sRetT (i:Nat):St:=fun env=>match env[i]? with
 | some (.tab rs)=>some (.rt (.lst (rs.map .lst)),env)
 | _=>none
def sSeq (a b:St):St:=fun env=>match a env with
 | some (.nx,env1)=>b env1
 | r=>r
def sIf (c:Tx) (a b:St):St:=fun env=>match c env with
 | some true=>a env
 | some false=>b env
 | none=>none
def sNever:St:=fun _=>none
abbrev Tg:=D→Env→Option Env
def gN (i:Nat):Tg:=fun d env=>some (env.set i (.sh d))
def g2 (i j:Nat):Tg:=fun d env=>match d with
 | .tup [x,y]=>some ((env.set i (.sh x)).set j (.sh y))
 | _=>none
def forL (g:Tg) (b:St):List D→St
 | [],env=>some (.nx,env)
 | d::ds,env=>match g d env with
  | some e0=>match b e0 with
   | some (.nx,e1)=>forL g b ds e1
   | some (.ct,e1)=>forL g b ds e1
   | some (.bk,e1)=>some (.nx,e1)
   | some (.rt r,e1)=>some (.rt r,e1)
   | none=>none
  | none=>none
def sFor (g:Tg) (it:Lx) (b:St):St:=fun env=>match it env with
 | some ds=>forL g b ds env
 | none=>none
def whileN (c:Tx) (b:St):Nat→St
 | 0,_=>none
 | n + 1,env=>match c env with
  | some true=>match b env with
   | some (.nx,e1)=>whileN c b n e1
   | some (.ct,e1)=>whileN c b n e1
   | some (.bk,e1)=>some (.nx,e1)
   | some (.rt r,e1)=>some (.rt r,e1)
   | none=>none
  | some false=>some (.nx,env)
  | none=>none
def enter (n:Nat) (ds:List D):Env:=ds.map .sh++List.replicate (n - ds.length) .un
def run (p n:Nat) (g:St) (ds:List D):Option D:=if ds.length=p then (match g (enter n ds) with
 | some (.rt d,_)=>some d
 | some (.nx,_)=>some .non
 | _=>none) else none
end PV
set_option linter.all false
set_option Elab.async false
set_option maxHeartbeats 1000000
namespace PV
open PySem (Str)
structure Agr (S:List Nat) (env env0:Env):Prop where
 len:env.length=env0.length
 out:∀ i,i ∉ S→env[i]?=env0[i]?
theorem Agr.refl (S:List Nat) (env:Env):Agr S env env:=⟨rfl,fun _ _=>rfl⟩
theorem Agr.trans {S:List Nat} {a b c:Env} (h:Agr S a b) (k:Agr S b c):Agr S a c:=⟨h.len.trans k.len,fun i hi=>(h.out i hi).trans (k.out i hi)⟩
theorem Agr.set {S:List Nat} {a b:Env} (h:Agr S a b) {i:Nat} (hi:i ∈ S) (s:Sl):Agr S (a.set i s) b :=
 ⟨by rw [List.length_set];exact h.len,fun j hj=>by rw [List.getElem?_set_ne (by rintro rfl;exact hj hi)];exact h.out j hj⟩
theorem Agr.mono {S T:List Nat} {a b:Env} (h:Agr S a b) (st:∀ i ∈ S,i ∈ T):Agr T a b:=⟨h.len,fun i hi=>h.out i fun z=>hi (st i z)⟩
theorem set_get {env:Env} {i:Nat} {s:Sl} (h:i < env.length):(env.set i s)[i]?=some s:=by rw [List.getElem?_set_self h]
theorem eVar_set_ne {env:Env} {i j:Nat} {s:Sl} (h:i≠j):eVar j (env.set i s)=eVar j env:=by unfold eVar;rw [List.getElem?_set_ne h]
theorem eVar_set {env:Env} {i:Nat} {d:D} (h:i < env.length):eVar i (env.set i (.sh d))=some d:=by unfold eVar;rw [set_get h];rfl
theorem Agr.var {S:List Nat} {a b:Env} (h:Agr S a b) {i:Nat} (hi:i ∉ S):eVar i a=eVar i b:=by unfold eVar;rw [h.out i hi]
theorem Agr.varR {S:List Nat} {a b:Env} (h:Agr S a b) {i:Nat} (hi:i ∉ S):eVarR i a=eVarR i b:=by unfold eVarR;rw [h.out i hi]
theorem sSeq_nx {a b:St} {env e1:Env} (h:a env=some (.nx,e1)):sSeq a b env=b e1:=by unfold sSeq;rw [h]
theorem sSeq_rt {a b:St} {env e1:Env} {r:D} (h:a env=some (.rt r,e1)):sSeq a b env=some (.rt r,e1):=by unfold sSeq;rw [h]
theorem sIf_tt {c:Tx} {a b:St} {env:Env} (h:c env=some true):sIf c a b env=a env:=by unfold sIf;rw [h]
theorem sIf_ff {c:Tx} {a b:St} {env:Env} (h:c env=some false):sIf c a b env=b env:=by unfold sIf;rw [h]
theorem sFor_of {g:Tg} {it:Lx} {b:St} {env:Env} {ds:List D} (h:it env=some ds):sFor g it b env=forL g b ds env:=by unfold sFor;rw [h]
theorem sRet_of {e:Ex} {env:Env} {d:D} (h:e env=some d):sRet e env=some (.rt d,env):=by unfold sRet;rw [h]
theorem sSet_of {i:Nat} {e:Ex} {env:Env} {d:D} (h:e env=some d):sSet i e env=some (.nx,env.set i (.sh d)):=by unfold sSet;rw [h]
theorem sDo_of {e:Ex} {env:Env} {d:D} (h:e env=some d):sDo e env=some (.nx,env):=by unfold sDo;rw [h]
theorem sSkip_of {env:Env}:sSkip env=some (.nx,env):=rfl
theorem run_rt {p n:Nat} {g:St} {ds:List D} {r:D} {e1:Env} (hp:ds.length=p) (h:g (enter n ds)=some (.rt r,e1)):run p n g ds=some r:=by unfold run;rw [if_pos hp,h]
theorem run_nx {p n:Nat} {g:St} {ds:List D} {e1:Env} (hp:ds.length=p) (h:g (enter n ds)=some (.nx,e1)):run p n g ds=some .non:=by unfold run;rw [if_pos hp,h]
theorem eCall1 {φ:List D→Option D} {a:Ex} {env:Env} {x:D} (h:a env=some x):eCall φ [a] env=φ [x]:=by simp [eCall,evs,h]
theorem eCall2 {φ:List D→Option D} {a b:Ex} {env:Env} {x y:D} (h:a env=some x) (h2:b env=some y):eCall φ [a,b] env=φ [x,y]:=by simp [eCall,evs,h,h2]
theorem eCall3 {φ:List D→Option D} {a b c:Ex} {env:Env} {x y z:D} (h:a env=some x) (h2:b env=some y) (h3:c env=some z):eCall φ [a,b,c] env=φ [x,y,z]:=by simp [eCall,evs,h,h2,h3]
theorem eF1_of {φ:D→Option D} {a:Ex} {env:Env} {x:D} (h:a env=some x):eF1 φ a env=φ x:=by simp [eF1,h]
theorem forL_find {g:Tg} {b:St} (P:Env→Prop) (q:D→Option D):∀ (ds:List D) (env:Env),
  (∀ d ∈ ds,∀ env,P env→∃ e0,g d env=some e0∧(∀ r,q d=some r→∃ e1,b e0=some (.rt r,e1))∧(q d=none→∃ e1,b e0=some (.nx,e1)∧P e1))→P env →
  (∀ r,ds.findSome? q=some r→∃ e1,forL g b ds env=some (.rt r,e1))∧(ds.findSome? q=none→∃ e1,forL g b ds env=some (.nx,e1)∧P e1)
 | [],env,_,p=>⟨fun r h=>by simp at h,fun _=>⟨env,rfl,p⟩⟩
 | d::ds,env,h,p=>by
  obtain ⟨e0,hg,h1,h2⟩:=h d List.mem_cons_self env p
  cases hq:q d with
  | some r =>
   obtain ⟨e1,hb⟩:=h1 r hq
   refine ⟨fun r' hr=>?_,fun hn=>?_⟩
   ·rw [List.findSome?_cons,hq] at hr
    cases hr
    exact ⟨e1,by simp only [forL,hg,hb]⟩
   ·rw [List.findSome?_cons,hq] at hn
    cases hn
  | none =>
   obtain ⟨e1,hb,p1⟩:=h2 hq
   have ih:=forL_find P q ds e1 (fun d' hd'=>h d' (List.mem_cons_of_mem _ hd')) p1
   have e:forL g b (d::ds) env=forL g b ds e1:=by simp only [forL,hg,hb]
   rw [e,List.findSome?_cons,hq]
   exact ih
theorem forL_run {g : Tg} {b : St} {ds : List D} (I : Nat → Env → Prop)
    (step : ∀ k d env, ds[k]? = some d → I k env → ∃ e0 e1, g d env = some e0 ∧ b e0 = some (.nx, e1) ∧ I (k + 1) e1) (env : Env) (h0 : I 0 env) : ∃ e1, forL g b ds env = some (.nx, e1) ∧ I ds.length e1 := by
  have go : ∀ (m k : Nat) (env : Env), k + m = ds.length → I k env → ∃ e1, forL g b (ds.drop k) env = some (.nx, e1) ∧ I ds.length e1 := by
    intro m
    induction m with
    | zero => intro k env hk hI; have : k = ds.length := by omega
              subst this; rw [List.drop_length]; exact ⟨env, rfl, hI⟩
    | succ m ih =>
      intro k env hk hI
      have hlt : k < ds.length := by omega
      obtain ⟨e0, e1, h1, h2, h3⟩ := step k ds[k] env (by simp [hlt]) hI
      rw [List.drop_eq_getElem_cons hlt]
      simp only [forL, h1, h2]
      exact ih (k + 1) e1 (by omega) h3
  simpa using go ds.length 0 env (by omega) h0
theorem compL_map {i:Nat} {e:Ex} {env:Env} (F:D→D):∀ (ds:List D),(∀ d ∈ ds,e (env.set i (.sh d))=some (F d))→compL i tTrue e env ds=some (ds.map F)
 | [],_=>rfl
 | d::ds,h=>by
  simp only [compL,tTrue,h d List.mem_cons_self,compL_map F ds fun d' hd'=>h d' (List.mem_cons_of_mem _ hd'),List.map_cons]
theorem compL_filter {i:Nat} {c:Tx} {e:Ex} {env:Env} (p:D→Bool) (F:D→D):∀ (ds:List D),(∀ d ∈ ds,c (env.set i (.sh d))=some (p d))→(∀ d ∈ ds,p d=true→e (env.set i (.sh d))=some (F d)) →
  compL i c e env ds=some ((ds.filter p).map F)
 | [],_,_=>rfl
 | d::ds,h,k=>by
  have ih:=compL_filter p F ds (fun d' hd'=>h d' (List.mem_cons_of_mem _ hd')) (fun d' hd'=>k d' (List.mem_cons_of_mem _ hd'))
  cases hp:p d with
  | true=>simp only [compL,h d List.mem_cons_self,hp,k d List.mem_cons_self hp,ih,List.filter_cons_of_pos,List.map_cons]
  | false=>simp [compL,h d List.mem_cons_self,hp,ih]
theorem allB_map {p:D→Bool}:∀ ds:List D,allB (ds.map fun d=>.bl (p d))=some (ds.all p)
 | []=>rfl
 | d::ds=>by simp only [List.map_cons,allB,allB_map ds,List.all_cons]
theorem rangeD_length (lo:Int) (n:Nat):(rangeD lo n).length=n:=by simp [rangeD]
theorem mem_rangeD {n:Nat} {d:D} (h:d ∈ rangeD 0 n):∃ k:Nat,k < n∧d=.int k:=by
 simp only [rangeD,List.mem_map,List.mem_range] at h
 obtain ⟨k,hk,rfl⟩:=h
 exact ⟨k,hk,by simp⟩
theorem rangeD_get {lo:Int} {n k:Nat} (h:k < n):(rangeD lo n)[k]?=some (.int (lo + k)):=by simp [rangeD,h]
theorem lim_eq:lim=100000:=rfl
theorem iRng_of {e:Ex} {env:Env} {n:Nat} (h:e env=some (.int n)) (hn:n≤1000):iRng e env=some (rangeD 0 n):=by
 unfold iRng
 simp only [h]
 rw [if_pos ⟨by rw [lim_eq];omega,by rw [lim_eq];omega⟩]
 simp
def rowD (r:List Int):D:=.lst (r.map .int)
def tabD (T:List (List Int)):D:=.lst (T.map rowD)
structure Tab (T:List (List Int)) (n:Nat):Prop where
 len:T.length=n
 row:∀ r ∈ T,r.length=n
 ent:∀ r ∈ T,∀ x ∈ r,0≤x∧x < n
 pos:1≤n
 top:n≤12
def tg (T:List (List Int)) (a b:Int):Int:=(T.getD a.toNat []).getD b.toNat 0
theorem atD_nat {xs:List D} {j:Nat} {d:D} (h:xs[j]?=some d):atD xs (j:Int)=some d:=by
 have hj:j < xs.length:=(List.getElem?_eq_some_iff.mp h).1
 unfold atD ixN
 rw [if_pos (by omega),if_pos (by omega)]
 simpa using h
theorem fIx_row {r:List Int} {b:Int} (h0:0≤b) (h1:b < r.length):fIx (rowD r) (.int b)=some (.int (r.getD b.toNat 0)):=by
 obtain ⟨k,rfl⟩:=Int.eq_ofNat_of_zero_le h0
 have hk:k < r.length:=by omega
 show atD _ _=_
 rw [atD_nat (d:=.int (r.getD k 0))]
 ·simp
 ·simp [hk,List.getD]
theorem fIx_tab {T:List (List Int)} {a:Int} (h0:0≤a) (h1:a < T.length):fIx (tabD T) (.int a)=some (rowD (T.getD a.toNat [])):=by
 obtain ⟨k,rfl⟩:=Int.eq_ofNat_of_zero_le h0
 have hk:k < T.length:=by omega
 show atD _ _=_
 rw [atD_nat (d:=rowD (T.getD k []))]
 ·simp
 ·simp [hk,List.getD]
theorem Tab.rowlen {T:List (List Int)} {n:Nat} (h:Tab T n) {a:Int} (h0:0≤a) (h1:a < n):(T.getD a.toNat []).length=n:=by
 have hk:a.toNat < T.length:=by have:=h.len;omega
 rw [List.getD_eq_getElem?_getD,List.getElem?_eq_getElem hk]
 exact h.row _ (List.getElem_mem hk)
theorem Tab.bound {T:List (List Int)} {n:Nat} (h:Tab T n) {a b:Int} (h0:0≤a) (h1:a < n) (h2:0≤b) (h3:b < n):0≤tg T a b∧tg T a b < n:=by
 have hk:a.toNat < T.length:=by have:=h.len;omega
 have hl:=h.rowlen h0 h1
 have hb:b.toNat < (T.getD a.toNat []).length:=by omega
 unfold tg
 rw [List.getD_eq_getElem?_getD (l:=T.getD a.toNat []),List.getElem?_eq_getElem hb]
 refine h.ent _ ?_ _ (List.getElem_mem hb)
 rw [List.getD_eq_getElem?_getD,List.getElem?_eq_getElem hk]
 exact List.getElem_mem hk
theorem ix2 {T:List (List Int)} {n:Nat} (h:Tab T n) {env:Env} {e0 e1 e2:Ex} {a b:Int} (k0:e0 env=some (tabD T)) (k1:e1 env=some (.int a)) (k2:e2 env=some (.int b))
  (h0:0≤a) (h1:a < n) (h2:0≤b) (h3:b < n):eIx (eIx e0 e1) e2 env=some (.int (tg T a b)):=by
 have hl:=h.rowlen h0 h1
 unfold eIx eF2
 simp only [k0,k1,k2,fIx_tab h0 (show a < T.length by rw [h.len];exact h1)]
 rw [fIx_row h2 (by rw [hl];exact h3)]
 rfl
theorem fLen_tab (T:List (List Int)):fLen (tabD T)=some (.int T.length):=by simp [tabD,fLen]
theorem fLen_row (r:List Int):fLen (rowD r)=some (.int r.length):=by simp [rowD,fLen]
mutual
theorem eqD_refl:∀ d:D,eqD d d=true
 | .non=>by simp [eqD]
 | .bl _=>by simp [eqD]
 | .int _=>by simp [eqD]
 | .str _=>by simp [eqD]
 | .lst xs=>by simp only [eqD];exact eqDs_refl xs
 | .tup xs=>by simp only [eqD];exact eqDs_refl xs
 | .dct xs=>by simp [eqD]
theorem eqDs_refl:∀ ds:List D,eqDs ds ds=true
 | []=>by simp [eqDs]
 | d::ds=>by simp only [eqDs,eqD_refl d,eqDs_refl ds,Bool.and_self]
end
theorem deps_ints:∀ xs:List Int,D.deps (xs.map .int)=0
 | []=>by simp [D.deps]
 | x::xs=>by simp [D.deps,D.dep,deps_ints xs]
theorem dep_row (r:List Int):(rowD r).dep=1:=by simp [rowD,D.dep,deps_ints]
theorem deps_rows:∀ T:List (List Int),D.deps (T.map rowD)≤1
 | []=>by simp [D.deps]
 | r::T=>by simp only [List.map_cons,D.deps,dep_row];have:=deps_rows T;omega
theorem dep_tab (T:List (List Int)):(tabD T).dep≤2:=by have:=deps_rows T;simp only [tabD,D.dep];omega
theorem tEq_int {a b:Ex} {env:Env} {i j:Int} (h1:a env=some (.int i)) (h2:b env=some (.int j)):tEq a b env=some (i == j):=by
 simp [tEq,h1,h2,D.dep,eqD]
theorem tNe_int {a b:Ex} {env:Env} {i j:Int} (h1:a env=some (.int i)) (h2:b env=some (.int j)):tNe a b env=some (!(i == j)):=by
 simp [tNe,h1,h2,D.dep,eqD]
theorem addv_nd {σ:List Int} {v:Int} (h:σ.Nodup):(addv σ v).Nodup:=by
 unfold addv
 split
 ·exact h
 ·rename_i hv
  rw [List.nodup_append]
  exact ⟨h,by simp,fun a ha b hb=>by simp at hb;subst hb;rintro rfl;exact hv ha⟩
theorem addv_mem {σ:List Int} {v x:Int}:x ∈ addv σ v↔x ∈ σ∨x=v:=by
 unfold addv
 split
 ·rename_i hv
  exact ⟨.inl,fun h=>h.elim id fun e=>e ▸ hv⟩
 ·simp
theorem seen_go:∀ (vs σ:List Int),σ.Nodup→(vs.foldl addv σ).Nodup∧∀ x,x ∈ vs.foldl addv σ↔x ∈ σ∨x ∈ vs
 | [],σ,h=>⟨h,fun x=>by simp⟩
 | v::vs,σ,h=>by
  have ih:=seen_go vs (addv σ v) (addv_nd h)
  refine ⟨ih.1,fun x=>?_⟩
  rw [List.foldl_cons,ih.2 x,addv_mem,List.mem_cons,or_assoc]
theorem seen_nd (vs:List Int):(seen vs).Nodup:=(seen_go vs [] List.nodup_nil).1
theorem seen_mem {vs:List Int} {x:Int}:x ∈ seen vs↔x ∈ vs:=by
 have:=(seen_go vs [] List.nodup_nil).2 x
 unfold seen
 rw [this];simp
theorem seen_snoc (vs:List Int) (v:Int):seen (vs++[v])=addv (seen vs) v:=by simp [seen]
theorem addv_len (σ:List Int) (v:Int):(addv σ v).length≤σ.length + 1:=by unfold addv;split <;> simp
theorem seen_len (vs:List Int):(seen vs).length≤vs.length:=by
 have go:∀ (vs σ:List Int),(vs.foldl addv σ).length≤σ.length + vs.length:=by
  intro vs
  induction vs with
  | nil=>intro σ;simp
  | cons v vs ih=>intro σ;have:=ih (addv σ v);have:=addv_len σ v;simp only [List.foldl_cons,List.length_cons];omega
 simpa [seen] using go vs []
theorem srt_ins_perm (x:Int):∀ ys:List Int,(ins1 x ys).Perm (x::ys)
 | []=>.refl _
 | y::ys=>by
  unfold ins1
  split
  ·exact .refl _
  ·exact ((srt_ins_perm x ys).cons y).trans (.swap x y ys)
theorem srt_perm:∀ xs:List Int,(srt xs).Perm xs
 | []=>.refl _
 | x::xs=>(srt_ins_perm x (srt xs)).trans ((srt_perm xs).cons x)
theorem srt_ins_le (x:Int):∀ ys:List Int,ys.Pairwise (·≤·)→(ins1 x ys).Pairwise (·≤·)
 | [],_=>by simp [ins1]
 | y::ys,h=>by
  rw [List.pairwise_cons] at h
  unfold ins1
  split
  ·rename_i hxy
   rw [List.pairwise_cons]
   refine ⟨fun z hz=>?_,List.pairwise_cons.mpr h⟩
   rcases List.mem_cons.mp hz with rfl | hz
   ·exact hxy
   ·have:=h.1 z hz;omega
  ·rename_i hxy
   rw [List.pairwise_cons]
   refine ⟨fun z hz=>?_,srt_ins_le x ys h.2⟩
   rcases List.mem_cons.mp ((srt_ins_perm x ys).mem_iff.mp hz) with rfl | hz
   ·omega
   ·exact h.1 z hz
theorem srt_le:∀ xs:List Int,(srt xs).Pairwise (·≤·)
 | []=>List.Pairwise.nil
 | x::xs=>srt_ins_le x _ (srt_le xs)
theorem srt_uniq {a b:List Int} (p:a.Perm b) (ha:a.Pairwise (·≤·)):a=srt b :=
 (p.trans (srt_perm b).symm).eq_of_pairwise (fun x y _ _ h1 h2=>Int.le_antisymm h1 h2) ha (srt_le b)
theorem srt_seen_mem {l:List Int} {x:Int}:x ∈ srt (seen l)↔x ∈ l:=by rw [(srt_perm _).mem_iff,seen_mem]
theorem rise_of {l:List Int} (h:l.Pairwise (·≤·)) (hn:l.Nodup):l.Pairwise (· < ·) :=
 (h.and hn).imp fun {a b} hab=>by obtain ⟨h1,h2⟩:=hab;omega
theorem srt_seen_lt (l:List Int):(srt (seen l)).Pairwise (· < ·):=rise_of (srt_le _) ((srt_perm _).nodup_iff.mpr (seen_nd l))
theorem rise_ext {a b:List Int} (ha:a.Pairwise (· < ·)) (hb:b.Pairwise (· < ·)) (h:∀ x,x ∈ a↔x ∈ b):a=b:=by
 have na:a.Nodup:=ha.imp fun {x y} h e=>by omega
 have nb:b.Nodup:=hb.imp fun {x y} h e=>by omega
 exact ((List.perm_ext_iff_of_nodup na nb).mpr h).eq_of_pairwise (fun x y _ _ h1 h2=>by omega) ha hb
theorem ints_map (r:List Int):ints? (r.map .int)=some r:=by
 induction r with
 | nil=>rfl
 | cons x r ih=>simp [ints?,ih]
theorem ltL_irr:∀ x:List Int,ltL x x=false
 | []=>rfl
 | a::x=>by simp [ltL,ltL_irr x]
theorem ltL_tr:∀ {x y z:List Int},ltL x y=true→ltL y z=true→ltL x z=true
 | [],[],z,h,_=>by simp [ltL] at h
 | [],b::y,[],_,h=>by simp [ltL] at h
 | [],b::y,c::z,_,_=>by simp [ltL]
 | a::x,[],z,h,_=>by simp [ltL] at h
 | a::x,b::y,[],_,h=>by simp [ltL] at h
 | a::x,b::y,c::z,h,k=>by
  simp only [ltL] at h k ⊢
  by_cases e1:a=b
  ·subst e1
   rw [if_pos rfl] at h
   by_cases e2:a=c
   ·subst e2
    rw [if_pos rfl] at k ⊢
    exact ltL_tr h k
   ·rw [if_neg e2] at k ⊢;exact k
  ·rw [if_neg e1] at h
   have h':=of_decide_eq_true h
   by_cases e2:b=c
   ·subst e2
    rw [if_neg e1];exact h
   ·rw [if_neg e2] at k
    have k':=of_decide_eq_true k
    rw [if_neg (by omega)]
    exact decide_eq_true (by omega)
theorem ltL_tot:∀ x y:List Int,ltL x y=false→ltL y x=false→x=y
 | [],[],_,_=>rfl
 | [],b::y,h,_=>by simp [ltL] at h
 | a::x,[],_,h=>by simp [ltL] at h
 | a::x,b::y,h,k=>by
  simp only [ltL] at h k
  by_cases e:a=b
  ·subst e
   rw [if_pos rfl] at h k
   rw [ltL_tot x y h k]
  ·rw [if_neg e] at h
   rw [if_neg (fun q=>e q.symm)] at k
   have h':=of_decide_eq_false h
   have k':=of_decide_eq_false k
   omega
def leL (x y:List Int):Prop:=ltL y x=false
theorem leL.refl (x:List Int):leL x x:=ltL_irr x
theorem leL.of {x y:List Int} (h:ltL x y=true):leL x y:=by
 unfold leL
 cases k:ltL y x with
 | false=>rfl
 | true=>have:=ltL_tr h k;rw [ltL_irr] at this;cases this
theorem leL.trans {x y z:List Int} (h:leL x y) (k:leL y z):leL x z:=by
 unfold leL at *
 cases q:ltL z x with
 | false=>rfl
 | true =>
  cases e:ltL x y with
  | true=>have:=ltL_tr q e;rw [k] at this;cases this
  | false=>rw [ltL_tot x y e h] at q;rw [k] at q;cases q
theorem leL.anti {x y:List Int} (h:leL x y) (k:leL y x):x=y:=ltL_tot x y k h
theorem insB_perm {α:Type} (key:α→List Int) (x:α):∀ ys:List α,(insB key x ys).Perm (x::ys)
 | []=>.refl _
 | y::ys=>by
  unfold insB
  split
  ·exact ((insB_perm key x ys).cons y).trans (.swap x y ys)
  ·exact .refl _
theorem srtB_perm {α:Type} (key:α→List Int):∀ xs:List α,(srtB key xs).Perm xs
 | []=>.refl _
 | x::xs=>(insB_perm key x _).trans ((srtB_perm key xs).cons x)
theorem insB_up {α:Type} (key:α→List Int) (x:α):∀ ys:List α,ys.Pairwise (fun a b=>leL (key a) (key b))→(insB key x ys).Pairwise (fun a b=>leL (key a) (key b))
 | [],_=>by simp [insB]
 | y::ys,h=>by
  rw [List.pairwise_cons] at h
  unfold insB
  split
  ·rename_i hl
   rw [List.pairwise_cons]
   refine ⟨fun z hz=>?_,insB_up key x ys h.2⟩
   rcases List.mem_cons.mp ((insB_perm key x ys).mem_iff.mp hz) with rfl | hz
   ·exact leL.of hl
   ·exact h.1 z hz
  ·rename_i hl
   have hl':leL (key x) (key y):=by unfold leL;simpa using hl
   rw [List.pairwise_cons]
   refine ⟨fun z hz=>?_,List.pairwise_cons.mpr h⟩
   rcases List.mem_cons.mp hz with rfl | hz
   ·exact hl'
   ·exact hl'.trans (h.1 z hz)
theorem srtB_up {α:Type} (key:α→List Int):∀ xs:List α,(srtB key xs).Pairwise (fun a b=>leL (key a) (key b))
 | []=>List.Pairwise.nil
 | x::xs=>insB_up key x _ (srtB_up key xs)
end PV
set_option linter.all false
set_option Elab.async false
set_option maxHeartbeats 1000000
namespace PV
open PySem (Str)
def ev (e:Ex) (env:Env) (P:D→Prop):Prop:=∃ d,e env=some d∧P d
def evI (e:Ex) (env:Env) (P:Int→Prop):Prop:=∃ i,e env=some (.int i)∧P i
def evR (e:Ex) (env:Env) (P:List Int→Prop):Prop:=∃ r,e env=some (rowD r)∧P r
def evT (e:Ex) (env:Env) (P:List (List Int)→Prop):Prop:=∃ T,e env=some (tabD T)∧P T
def tv (t:Tx) (env:Env) (P:Bool→Prop):Prop:=∃ k,t env=some k∧P k
def wp (s:St) (env:Env) (Q:Out→Env→Prop):Prop:=∃ o e,s env=some (o,e)∧Q o e
theorem ev.mono {e:Ex} {env:Env} {P P':D→Prop} (h:ev e env P) (k:∀ d,P d→P' d):ev e env P':=let ⟨d,a,b⟩:=h;⟨d,a,k d b⟩
theorem wp.mono {s:St} {env:Env} {Q Q':Out→Env→Prop} (h:wp s env Q) (k:∀ o e,Q o e→Q' o e):wp s env Q':=let ⟨o,e,a,b⟩:=h;⟨o,e,a,k o e b⟩
theorem tv.mono {t:Tx} {env:Env} {P P':Bool→Prop} (h:tv t env P) (k:∀ d,P d→P' d):tv t env P':=let ⟨d,a,b⟩:=h;⟨d,a,k d b⟩
theorem evI.ev {e:Ex} {env:Env} {P:D→Prop} (h:evI e env fun i=>P (.int i)):ev e env P:=let ⟨i,a,b⟩:=h;⟨_,a,b⟩
theorem evR.ev {e:Ex} {env:Env} {P:D→Prop} (h:evR e env fun r=>P (rowD r)):ev e env P:=let ⟨i,a,b⟩:=h;⟨_,a,b⟩
theorem evT.ev {e:Ex} {env:Env} {P:D→Prop} (h:evT e env fun r=>P (tabD r)):ev e env P:=let ⟨i,a,b⟩:=h;⟨_,a,b⟩
theorem ev.eq {e:Ex} {env:Env} {d:D} (h:ev e env (·=d)):e env=some d:=let ⟨x,a,b⟩:=h;b ▸ a
theorem evI.eq {e:Ex} {env:Env} {i:Int} (h:evI e env (·=i)):e env=some (.int i):=let ⟨x,a,b⟩:=h;b ▸ a
theorem tv.eq {e:Tx} {env:Env} {d:Bool} (h:tv e env (·=d)):e env=some d:=let ⟨x,a,b⟩:=h;b ▸ a
theorem ev_of {e:Ex} {env:Env} {d:D} {P:D→Prop} (h:e env=some d) (k:P d):ev e env P:=⟨d,h,k⟩
theorem evI_of {e:Ex} {env:Env} {d:Int} {P:Int→Prop} (h:e env=some (.int d)) (k:P d):evI e env P:=⟨d,h,k⟩
theorem evR_of {e:Ex} {env:Env} {d:List Int} {P:List Int→Prop} (h:e env=some (rowD d)) (k:P d):evR e env P:=⟨d,h,k⟩
theorem evT_of {e:Ex} {env:Env} {d:List (List Int)} {P:List (List Int)→Prop} (h:e env=some (tabD d)) (k:P d):evT e env P:=⟨d,h,k⟩
theorem tv_of {e:Tx} {env:Env} {d:Bool} {P:Bool→Prop} (h:e env=some d) (k:P d):tv e env P:=⟨d,h,k⟩
theorem evI_addF {a b:Ex} {env:Env} {P:Int→Prop} (h:evI a env fun i=>evI b env fun j=>P (i + j)):evI (eAdd a b) env P:=by
 obtain ⟨i,h1,j,h2,p⟩:=h;exact ⟨_,by simp [eAdd,eF2,h1,h2,fAdd],p⟩
theorem evI_mod {a b:Ex} {env:Env} {P:Int→Prop} (h:evI a env fun i=>evI b env fun j=>0 < j∧P (i % j)):evI (e2I iMod a b) env P:=by
 obtain ⟨i,h1,j,h2,q,p⟩:=h;exact ⟨_,by simp only [e2I,h1,h2,iMod,if_pos q],p⟩
theorem evI_lenT {a:Ex} {env:Env} {P:Int→Prop} (h:evT a env fun T=>P T.length):evI (eF1 fLen a) env P:=by
 obtain ⟨T,h1,p⟩:=h;exact ⟨_,by simp [eF1,h1,fLen_tab],p⟩
theorem evI_lenR {a:Ex} {env:Env} {P:Int→Prop} (h:evR a env fun T=>P T.length):evI (eF1 fLen a) env P:=by
 obtain ⟨T,h1,p⟩:=h;exact ⟨_,by simp [eF1,h1,fLen_row],p⟩
theorem evI_ix2 {e0 e1 e2:Ex} {env:Env} {P:Int→Prop} {T:List (List Int)} {n:Nat} (hT:Tab T n) (h0:e0 env=some (tabD T)) (h:evI e1 env fun a=>evI e2 env fun b=>(0≤a∧a < n)∧(0≤b∧b < n)∧P (tg T a b)):evI (eIx (eIx e0 e1) e2) env P:=by
 obtain ⟨a,h1,b,h2,⟨a0,a1⟩,⟨b0,b1⟩,p⟩:=h;exact ⟨_,ix2 hT h0 h1 h2 a0 a1 b0 b1,p⟩
theorem evI_ixR {e0 e1:Ex} {env:Env} {P:Int→Prop} (h:evR e0 env fun r=>evI e1 env fun b=>(0≤b∧b < r.length)∧P (r.getD b.toNat 0)):evI (eIx e0 e1) env P:=by
 obtain ⟨r,h0,b,h1,⟨b0,b1⟩,p⟩:=h;exact ⟨_,by simp only [eIx,eF2,h0,h1,fIx_row b0 b1],p⟩
theorem evR_ixT {e0 e1:Ex} {env:Env} {P:List Int→Prop} (h:evT e0 env fun r=>evI e1 env fun b=>(0≤b∧b < r.length)∧P (r.getD b.toNat [])):evR (eIx e0 e1) env P:=by
 obtain ⟨r,h0,b,h1,⟨b0,b1⟩,p⟩:=h;exact ⟨_,by simp only [eIx,eF2,h0,h1,fIx_tab b0 b1],p⟩
theorem ev_call2 {φ:List D→Option D} {a b:Ex} {env:Env} {P:D→Prop} (h:ev a env fun x=>ev b env fun y=>∃ d,φ [x,y]=some d∧P d):ev (eCall φ [a,b]) env P:=by
 obtain ⟨x,h1,y,h2,d,h3,p⟩:=h;exact ⟨d,(eCall2 h1 h2).trans h3,p⟩
theorem ev_callI2 {φ:List D→Option D} {a b:Ex} {env:Env} {P:Int→Prop} (h:ev a env fun x=>ev b env fun y=>∃ d,φ [x,y]=some (.int d)∧P d):evI (eCall φ [a,b]) env P:=by
 obtain ⟨x,h1,y,h2,d,h3,p⟩:=h;exact ⟨d,(eCall2 h1 h2).trans h3,p⟩
theorem ev_lst1 {a:Ex} {env:Env} {P:D→Prop} (h:ev a env fun x=>P (.lst [x])):ev (eLst [a]) env P:=by
 obtain ⟨x,h1,p⟩:=h;exact ⟨_,by simp [eLst,evs,h1],p⟩
theorem evR_lst1 {a:Ex} {env:Env} {P:List Int→Prop} (h:evI a env fun x=>P [x]):evR (eLst [a]) env P:=by
 obtain ⟨x,h1,p⟩:=h;exact ⟨_,by simp [eLst,evs,h1,rowD],p⟩
theorem ev_B {t:Tx} {env:Env} {P:D→Prop} (h:tv t env fun k=>P (.bl k)):ev (eB t) env P:=by
 obtain ⟨k,h1,p⟩:=h;exact ⟨_,by simp only [eB,h1],p⟩
theorem evR_listR {a:Ex} {env:Env} {P:List Int→Prop} (h:evR a env fun r=>P r):evR (eF1 fList a) env P:=by
 obtain ⟨r,h1,p⟩:=h;exact ⟨_,by simp only [eF1,h1];rfl,p⟩
theorem tv_lt {a b:Ex} {env:Env} {P:Bool→Prop} (h:evI a env fun i=>evI b env fun j=>P (decide (i < j))):tv (t2I pLt a b) env P:=by
 obtain ⟨i,h1,j,h2,p⟩:=h;exact ⟨_,by simp [t2I,h1,h2,pLt],p⟩
theorem tv_gt {a b:Ex} {env:Env} {P:Bool→Prop} (h:evI a env fun i=>evI b env fun j=>P (decide (j < i))):tv (t2I pGt a b) env P:=by
 obtain ⟨i,h1,j,h2,p⟩:=h;exact ⟨_,by simp [t2I,h1,h2,pGt],p⟩
theorem tv_eqI {a b:Ex} {env:Env} {P:Bool→Prop} (h:evI a env fun i=>evI b env fun j=>P (decide (i=j))):tv (tEq a b) env P:=by
 obtain ⟨i,h1,j,h2,p⟩:=h;exact ⟨_,(tEq_int h1 h2).trans (by congr 1),p⟩
theorem tv_neI {a b:Ex} {env:Env} {P:Bool→Prop} (h:evI a env fun i=>evI b env fun j=>P (decide (i≠j))):tv (tNe a b) env P:=by
 obtain ⟨i,h1,j,h2,p⟩:=h
 exact ⟨_,(tNe_int h1 h2).trans (by congr 1;by_cases e:i=j <;> simp [e]),p⟩
theorem eqDs_int:∀ (r q:List Int),eqDs (r.map .int) (q.map .int)=decide (r=q)
 | [],[]=>by simp [eqDs]
 | [],_::_=>by simp [eqDs]
 | _::_,[]=>by simp [eqDs]
 | x::r,y::q=>by
  simp only [List.map_cons,eqDs,eqD,eqDs_int r q]
  by_cases h1:x=y <;> by_cases h2:r=q <;> simp [h1,h2]
theorem eqD_row (r q:List Int):eqD (rowD r) (rowD q)=decide (r=q):=by simp only [rowD,eqD,eqDs_int]
theorem eqDs_rows:∀ (r q:List (List Int)),eqDs (r.map rowD) (q.map rowD)=decide (r=q)
 | [],[]=>by simp [eqDs]
 | [],_::_=>by simp [eqDs]
 | _::_,[]=>by simp [eqDs]
 | x::r,y::q=>by
  simp only [List.map_cons,eqDs,eqD_row,eqDs_rows r q]
  by_cases h1:x=y <;> by_cases h2:r=q <;> simp [h1,h2]
theorem eqD_tab (r q:List (List Int)):eqD (tabD r) (tabD q)=decide (r=q):=by simp only [tabD,eqD,eqDs_rows]
theorem tv_eqR {a b:Ex} {env:Env} {P:Bool→Prop} (h:evR a env fun i=>evR b env fun j=>P (decide (i=j))):tv (tEq a b) env P:=by
 obtain ⟨i,h1,j,h2,p⟩:=h;exact ⟨_,by simp [tEq,h1,h2,dep_row,eqD_row],p⟩
theorem tv_neR {a b:Ex} {env:Env} {P:Bool→Prop} (h:evR a env fun i=>evR b env fun j=>P (decide (i≠j))):tv (tNe a b) env P:=by
 obtain ⟨i,h1,j,h2,p⟩:=h;exact ⟨_,by simp [tNe,h1,h2,dep_row,eqD_row],p⟩
theorem tv_neT {a b:Ex} {env:Env} {P:Bool→Prop} (h:evT a env fun i=>evT b env fun j=>P (decide (i≠j))):tv (tNe a b) env P:=by
 obtain ⟨i,h1,j,h2,p⟩:=h
 exact ⟨_,by have:=dep_tab i;have:=dep_tab j;simp only [tNe,h1,h2,eqD_tab];rw [if_pos (by omega)];simp,p⟩
theorem inD_int (x:Int):∀ r:List Int,inD (.int x) (r.map .int)=decide (x ∈ r)
 | []=>by simp [inD]
 | y::r=>by
  have ih:=inD_int x r
  simp only [inD] at ih ⊢
  simp only [List.map_cons,List.any_cons,ih,eqD]
  by_cases h1:x=y
  ·simp [h1]
  ·have:¬ y=x:=fun e=>h1 e.symm
   simp [h1,this]
theorem inD_row (x:List Int):∀ r:List (List Int),inD (rowD x) (r.map rowD)=decide (x ∈ r)
 | []=>by simp [inD]
 | y::r=>by
  have ih:=inD_row x r
  simp only [inD] at ih ⊢
  simp only [List.map_cons,List.any_cons,ih,eqD_row]
  by_cases h1:x=y
  ·simp [h1]
  ·have:¬ y=x:=fun e=>h1 e.symm
   simp [h1,this]
theorem tv_inR {a b:Ex} {env:Env} {P:Bool→Prop} (h:evI a env fun i=>evR b env fun r=>P (decide (i ∈ r))):tv (tIn a b) env P:=by
 obtain ⟨i,h1,j,h2,p⟩:=h
 exact ⟨_,by simp only [tIn,h1,h2,rowD,deps_ints,inD_int];rfl,p⟩
theorem tv_inT {a b:Ex} {env:Env} {P:Bool→Prop} (h:evR a env fun i=>evT b env fun r=>P (decide (i ∈ r))):tv (tIn a b) env P:=by
 obtain ⟨i,h1,j,h2,p⟩:=h
 exact ⟨_,by have:=deps_rows j;have:=dep_row i;simp only [tIn,h1,h2,tabD,inD_row];rw [if_pos (by omega)],p⟩
theorem tv_niT {a b:Ex} {env:Env} {P:Bool→Prop} (h:evR a env fun i=>evT b env fun r=>P (decide (i ∉ r))):tv (tNi a b) env P:=by
 obtain ⟨i,h1,j,h2,p⟩:=h
 exact ⟨_,by have:=deps_rows j;have:=dep_row i;simp only [tNi,tIn,h1,h2,tabD,inD_row];rw [if_pos (by omega)];simp,p⟩
theorem tv_noN {a:Ex} {env:Env} {P:Bool→Prop} (h:ev a env fun d=>P (!d.isN)):tv (tNoN a) env P:=by
 obtain ⟨i,h1,p⟩:=h;exact ⟨_,by simp only [tNoN,h1],p⟩
theorem tv_not {a:Tx} {env:Env} {P:Bool→Prop} (h:tv a env fun d=>P (!d)):tv (tNot a) env P:=by
 obtain ⟨i,h1,p⟩:=h;exact ⟨_,by simp only [tNot,h1],p⟩
theorem tv_and {a b:Tx} {env:Env} {P:Bool→Prop} (h:tv a env fun d=>(d=true→tv b env P)∧(d=false→P false)):tv (tAnd a b) env P:=by
 obtain ⟨i,h1,p,q⟩:=h
 cases i with
 | true=>obtain ⟨j,h2,p⟩:=p rfl;exact ⟨j,by simp only [tAnd,h1,h2],p⟩
 | false=>exact ⟨false,by simp only [tAnd,h1],q rfl⟩
theorem tv_or {a b:Tx} {env:Env} {P:Bool→Prop} (h:tv a env fun d=>(d=true→P true)∧(d=false→tv b env P)):tv (tOr a b) env P:=by
 obtain ⟨i,h1,p,q⟩:=h
 cases i with
 | false=>obtain ⟨j,h2,p⟩:=q rfl;exact ⟨j,by simp only [tOr,h1,h2],p⟩
 | true=>exact ⟨true,by simp only [tOr,h1],p rfl⟩
theorem tv_B {a:Ex} {env:Env} {P:Bool→Prop} (h:ev a env fun d=>∃ k,d=.bl k∧P k):tv (tB a) env P:=by
 obtain ⟨_,h1,k,rfl,p⟩:=h;exact ⟨_,by simp only [tB,h1],p⟩
theorem wp_skip {env:Env} {Q:Out→Env→Prop} (h:Q .nx env):wp sSkip env Q:=⟨_,_,rfl,h⟩
theorem wp_set {i:Nat} {e:Ex} {env:Env} {Q:Out→Env→Prop} (h:ev e env fun d=>Q .nx (env.set i (.sh d))):wp (sSet i e) env Q:=by
 obtain ⟨d,h1,p⟩:=h;exact ⟨_,_,by simp only [sSet,h1],p⟩
theorem wp_setF {i:Nat} {e:Ex} {env:Env} {Q:Out→Env→Prop} (h:ev e env fun d=>Q .nx (env.set i (.fr d))):wp (sSetF i e) env Q:=by
 obtain ⟨d,h1,p⟩:=h;exact ⟨_,_,by simp only [sSetF,h1],p⟩
theorem wp_own {i:Nat} {e:Ex} {env:Env} {Q:Out→Env→Prop} (h:ev e env fun d=>∃ ds,d=.lst ds∧Q .nx (env.set i (.ow ds))):wp (sOwn i e) env Q:=by
 obtain ⟨_,h1,ds,rfl,p⟩:=h;exact ⟨_,_,by simp only [sOwn,h1],p⟩
theorem wp_app {i:Nat} {e:Ex} {env:Env} {Q:Out→Env→Prop} {ds:List D} (hi:env[i]?=some (.ow ds)) (h:ev e env fun d=>ds.length < lim∧Q .nx (env.set i (.ow (ds++[d])))):wp (sApp i e) env Q:=by
 obtain ⟨d,h1,q,p⟩:=h;exact ⟨_,_,by simp only [sApp,hi,h1,if_pos q],p⟩
theorem wp_frz {i:Nat} {env:Env} {Q:Out→Env→Prop} {ds:List D} (hi:env[i]?=some (.ow ds)) (h:Q .nx (env.set i (.sh (.lst ds)))):wp (sFrz i) env Q:=⟨_,_,by simp only [sFrz,hi],h⟩
theorem wp_frzS {i:Nat} {env:Env} {Q:Out→Env→Prop} {d:D} (hi:env[i]?=some (.sh d)) (h:Q .nx env):wp (sFrz i) env Q:=⟨_,_,by simp only [sFrz,hi],h⟩
theorem wp_do {e:Ex} {env:Env} {Q:Out→Env→Prop} (h:ev e env fun _=>Q .nx env):wp (sDo e) env Q:=by
 obtain ⟨d,h1,p⟩:=h;exact ⟨_,_,by simp only [sDo,h1],p⟩
theorem wp_ret {e:Ex} {env:Env} {Q:Out→Env→Prop} (h:ev e env fun d=>Q (.rt d) env):wp (sRet e) env Q:=by
 obtain ⟨d,h1,p⟩:=h;exact ⟨_,_,by simp only [sRet,h1],p⟩
def thn (b:St) (Q:Out→Env→Prop):Out→Env→Prop
 | .nx,e=>wp b e Q
 | .bk,e=>Q .bk e
 | .ct,e=>Q .ct e
 | .rt d,e=>Q (.rt d) e
theorem wp_seq {a b:St} {env:Env} {Q:Out→Env→Prop} (h:wp a env (thn b Q)):wp (sSeq a b) env Q:=by
 obtain ⟨o,e,h1,p⟩:=h
 cases o with
 | nx=>obtain ⟨o,e',h2,p⟩:=p;exact ⟨o,e',by simp only [sSeq,h1,h2],p⟩
 | bk=>exact ⟨_,_,by simp only [sSeq,h1],p⟩
 | ct=>exact ⟨_,_,by simp only [sSeq,h1],p⟩
 | rt d=>exact ⟨_,_,by simp only [sSeq,h1],p⟩
theorem wp_if {c:Tx} {a b:St} {env:Env} {Q:Out→Env→Prop} (h:tv c env fun k=>(k=true→wp a env Q)∧(k=false→wp b env Q)):wp (sIf c a b) env Q:=by
 obtain ⟨k,h1,p,q⟩:=h
 cases k with
 | true=>obtain ⟨o,e,h2,p⟩:=p rfl;exact ⟨o,e,by simp only [sIf,h1,h2],p⟩
 | false=>obtain ⟨o,e,h2,p⟩:=q rfl;exact ⟨o,e,by simp only [sIf,h1,h2],p⟩
theorem wp_no {c:Tx} {a:St} {env:Env} {Q:Out→Env→Prop} (h:tv c env (·=false)) (k:Q .nx env):wp (sIf c a sSkip) env Q :=
 wp_if (tv.mono h fun d hd=>⟨fun e=>(by rw [hd] at e;cases e),fun _=>wp_skip k⟩)
def lps (I:Env→Prop) (Q:Out→Env→Prop):Out→Env→Prop
 | .nx,e=>I e
 | .ct,e=>I e
 | .bk,e=>Q .nx e
 | .rt d,e=>Q (.rt d) e
theorem wp_for {g : Tg} {it : Lx} {b : St} {env : Env} {Q : Out → Env → Prop} {ds : List D} (I : Nat → Env → Prop) (hit : it env = some ds) (h0 : I 0 env)
    (step : ∀ k d e, ds[k]? = some d → I k e → ∃ e0, g d e = some e0 ∧ wp b e0 (lps (I (k + 1)) Q)) (h1 : ∀ e, I ds.length e → Q .nx e) : wp (sFor g it b) env Q := by
  have go : ∀ (m k : Nat) (env : Env), k + m = ds.length → I k env → ∃ o e, forL g b (ds.drop k) env = some (o, e) ∧ Q o e := by
    intro m
    induction m with
    | zero => intro k env hk hI; have : k = ds.length := by omega
              subst this; rw [List.drop_length]; exact ⟨_, env, rfl, h1 _ hI⟩
    | succ m ih =>
      intro k env hk hI
      have hlt : k < ds.length := by omega
      obtain ⟨e0, hg, o, e1, hb, p⟩ := step k ds[k] env (by simp [hlt]) hI
      rw [List.drop_eq_getElem_cons hlt]
      cases o with
      | nx => obtain ⟨o, e, h2, p⟩ := ih (k + 1) e1 (by omega) p; exact ⟨o, e, by simp only [forL, hg, hb, h2], p⟩
      | ct => obtain ⟨o, e, h2, p⟩ := ih (k + 1) e1 (by omega) p; exact ⟨o, e, by simp only [forL, hg, hb, h2], p⟩
      | bk => exact ⟨_, _, by simp only [forL, hg, hb], p⟩
      | rt d => exact ⟨_, _, by simp only [forL, hg, hb], p⟩
  obtain ⟨o, e, h2, p⟩ := go ds.length 0 env (by omega) h0
  exact ⟨o, e, by simp only [sFor, hit]; simpa using h2, p⟩
theorem wp_forR {i n:Nat} {it:Lx} {b:St} {env:Env} {Q:Out→Env→Prop} (I:Nat→Env→Prop) (hit:it env=some (rangeD 0 n)) (h0:I 0 env)
  (step:∀ (k:Nat) e,k < n→I k e→wp b (e.set i (.sh (.int k))) (lps (I (k + 1)) Q)) (h1:∀ e,I n e→Q .nx e):wp (sFor (gN i) it b) env Q:=by
 refine wp_for I hit h0 (fun k d e hd hI=>?_) (fun e hI=>h1 e (by rwa [rangeD_length] at hI))
 have hk:k < n:=by have:=(List.getElem?_eq_some_iff.mp hd).1;rwa [rangeD_length] at this
 rw [rangeD_get hk] at hd
 injection hd with hd
 subst hd
 refine ⟨_,rfl,?_⟩
 have:=step k e hk hI
 rwa [show (0:Int) + (k:Nat)=k by omega]
theorem wp_forRow {i:Nat} {it:Lx} {r:List Int} {b:St} {env:Env} {Q:Out→Env→Prop} (I:Nat→Env→Prop) (hit:it env=some (r.map .int)) (h0:I 0 env)
  (step:∀ (k:Nat) e x,r[k]?=some x→I k e→wp b (e.set i (.sh (.int x))) (lps (I (k + 1)) Q)) (h1:∀ e,I r.length e→Q .nx e):wp (sFor (gN i) it b) env Q:=by
 refine wp_for I hit h0 (fun k d e hd hI=>?_) (fun e hI=>h1 e (by rwa [List.length_map] at hI))
 rw [List.getElem?_map,Option.map_eq_some_iff] at hd
 obtain ⟨x,hx,rfl⟩:=hd
 exact ⟨_,rfl,step k e x hx hI⟩
theorem wp_forTab {i:Nat} {it:Lx} {r:List (List Int)} {b:St} {env:Env} {Q:Out→Env→Prop} (I:Nat→Env→Prop) (hit:it env=some (r.map rowD)) (h0:I 0 env)
  (step:∀ (k:Nat) e x,r[k]?=some x→I k e→wp b (e.set i (.sh (rowD x))) (lps (I (k + 1)) Q)) (h1:∀ e,I r.length e→Q .nx e):wp (sFor (gN i) it b) env Q:=by
 refine wp_for I hit h0 (fun k d e hd hI=>?_) (fun e hI=>h1 e (by rwa [List.length_map] at hI))
 rw [List.getElem?_map,Option.map_eq_some_iff] at hd
 obtain ⟨x,hx,rfl⟩:=hd
 exact ⟨_,rfl,step k e x hx hI⟩
theorem wp_while {c:Tx} {b:St} {env:Env} {Q:Out→Env→Prop} {m N:Nat} (I:Nat→Env→Prop) (hN:N < m) (h0:I 0 env)
  (step:∀ k e,I k e→tv c e fun t=>(t=true→k < N∧wp b e (lps (I (k + 1)) Q))∧(t=false→Q .nx e)):wp (whileN c b m) env Q:=by
 have go:∀ (m k:Nat) (env:Env),N < k + m→k≤N→I k env→∃ o e,whileN c b m env=some (o,e)∧Q o e:=by
  intro m
  induction m with
  | zero=>intro k env h1 h2;omega
  | succ m ih =>
   intro k env h1 h2 hI
   obtain ⟨t,ht,p,q⟩:=step k env hI
   cases t with
   | false=>exact ⟨_,_,by simp only [whileN,ht],q rfl⟩
   | true =>
    obtain ⟨hk,o,e1,hb,p⟩:=p rfl
    cases o with
    | nx=>obtain ⟨o,e,h3,p⟩:=ih (k + 1) e1 (by omega) (by omega) p;exact ⟨o,e,by simp only [whileN,ht,hb,h3],p⟩
    | ct=>obtain ⟨o,e,h3,p⟩:=ih (k + 1) e1 (by omega) (by omega) p;exact ⟨o,e,by simp only [whileN,ht,hb,h3],p⟩
    | bk=>exact ⟨_,_,by simp only [whileN,ht,hb],p⟩
    | rt d=>exact ⟨_,_,by simp only [whileN,ht,hb],p⟩
 exact go m 0 env (by omega) (by omega) h0
def ends (d:D):Out→Env→Prop
 | .rt x,_=>x=d
 | .nx,_=>d=.non
 | _,_=>False
theorem run_of {p n:Nat} {g:St} {ds:List D} {d:D} (hp:ds.length=p) (h:wp g (enter n ds) (ends d)):run p n g ds=some d:=by
 obtain ⟨o,e,h1,q⟩:=h
 cases o with
 | rt x=>have:x=d:=q;subst this;exact run_rt hp h1
 | nx=>have:d=.non:=q;subst this;exact run_nx hp h1
 | bk=>cases q
 | ct=>cases q
theorem eComp_filter {i:Nat} {it:Lx} {c:Tx} {e:Ex} {env:Env} {P:D→Prop} {ds:List D} (p:D→Bool) (F:D→D) (hit:it env=some ds) (hl:ds.length≤lim)
  (hc:∀ d ∈ ds,tv c (env.set i (.sh d)) (·=p d)) (he:∀ d ∈ ds,p d=true→ev e (env.set i (.sh d)) (·=F d)) (h:P (.lst ((ds.filter p).map F))):ev (eComp i it c e) env P :=
 ⟨_,by simp only [eComp,hit,if_pos hl,compL_filter p F ds (fun d hd=>(hc d hd).eq) fun d hd hp=>(he d hd hp).eq],h⟩
theorem compR {i:Nat} {it:Lx} {c:Tx} {e:Ex} {env:Env} {P:List Int→Prop} {r:List Int} (p:Int→Bool) (F:Int→Int) (hit:it env=some (r.map .int)) (hl:r.length≤lim)
  (hc:∀ x ∈ r,tv c (env.set i (.sh (.int x))) (·=p x)) (he:∀ x ∈ r,p x=true→evI e (env.set i (.sh (.int x))) (·=F x)) (h:P ((r.filter p).map F)):evR (eComp i it c e) env P:=by
 have key:=eComp_filter (P:=(·=rowD ((r.filter p).map F))) (c:=c) (e:=e) (i:=i) (fun d=>match d with | .int x=>p x | _=>false) (fun d=>match d with | .int x=>.int (F x) | _=>.non) hit (by rw [List.length_map];exact hl)
  (fun d hd=>by obtain ⟨x,hx,rfl⟩:=List.mem_map.mp hd;exact hc x hx)
  (fun d hd hp=>by obtain ⟨x,hx,rfl⟩:=List.mem_map.mp hd;exact evI.ev (let ⟨y,h1,h2⟩:=he x hx hp;⟨y,h1,congrArg D.int h2⟩))
  (by simp [rowD,List.filter_map,Function.comp_def])
 exact ⟨_,key.eq,h⟩
theorem compR1 {i:Nat} {it:Lx} {e:Ex} {env:Env} {P:List Int→Prop} {r:List Int} (F:Int→Int) (hit:it env=some (r.map .int)) (hl:r.length≤lim)
  (he:∀ x ∈ r,evI e (env.set i (.sh (.int x))) (·=F x)) (h:P (r.map F)):evR (eComp i it tTrue e) env P :=
 compR (fun _=>true) F hit hl (fun _ _=>⟨_,rfl,rfl⟩) (fun x hx _=>he x hx) (by rw [List.filter_eq_self.mpr (fun _ _=>rfl)];exact h)
def upto (n:Nat):List Int:=(List.range n).map Int.ofNat
theorem upto_D (n:Nat):(upto n).map D.int=rangeD 0 n:=by simp [upto,rangeD,Function.comp_def]
theorem mem_upto {n:Nat} {x:Int}:x ∈ upto n↔0≤x∧x < n:=by
 simp only [upto,List.mem_map,List.mem_range]
 exact ⟨fun ⟨k,hk,e⟩=>by subst e;simp only [Int.ofNat_eq_natCast];omega,fun ⟨h0,h1⟩=>⟨x.toNat,by omega,by simp only [Int.ofNat_eq_natCast];omega⟩⟩
theorem upto_len (n:Nat):(upto n).length=n:=by simp [upto]
theorem upto_nd (n:Nat):(upto n).Nodup:=by
 unfold upto
 exact List.Pairwise.map _ (fun a b (h:a≠b) (e:Int.ofNat a=Int.ofNat b)=>h (by simp only [Int.ofNat_eq_natCast] at e;omega)) List.nodup_range
theorem iRng_upto {e:Ex} {env:Env} {n:Nat} (h:e env=some (.int n)) (hn:n≤1000):iRng e env=some ((upto n).map .int):=by rw [upto_D];exact iRng_of h hn
theorem evR_range {a:Ex} {env:Env} {P:List Int→Prop} (h:evI a env fun j=>∃ n:Nat,j=n∧n≤1000∧P (upto n)):evR (eF1 fRangeList a) env P:=by
 obtain ⟨_,h1,n,rfl,hn,p⟩:=h
 refine ⟨_,?_,p⟩
 simp only [eF1,h1,fRangeList]
 rw [if_pos ⟨by rw [lim_eq];omega,by rw [lim_eq];omega⟩,← upto_D]
 simp [rowD]
theorem evR_sortset {a:Ex} {env:Env} {P:List Int→Prop} (h:evR a env fun r=>r.length≤3000∧(seen r).length < 64∧P (srt (seen r))):evR (eF1 fSortSet a) env P:=by
 obtain ⟨r,h1,h2,h3,p⟩:=h
 refine ⟨_,?_,p⟩
 simp only [eF1,h1,rowD,fSortSet,ints_map]
 rw [if_pos ⟨h2,h3⟩]
theorem evR_add {a b:Ex} {env:Env} {P:List Int→Prop} (h:evR a env fun r=>evR b env fun q=>r.length + q.length≤1000∧P (r++q)):evR (eAdd a b) env P:=by
 obtain ⟨r,h1,q,h2,h3,p⟩:=h
 refine ⟨_,?_,p⟩
 simp only [eAdd,eF2,h1,h2,rowD,fAdd,List.length_map]
 rw [if_pos (by rw [lim_eq];omega),List.map_append]
theorem wp_ownR {i:Nat} {e:Ex} {env:Env} {Q:Out→Env→Prop} (h:evR e env fun r=>Q .nx (env.set i (.ow (r.map .int)))):wp (sOwn i e) env Q:=by
 obtain ⟨r,h1,p⟩:=h
 exact ⟨_,_,by simp only [sOwn,h1,rowD],p⟩
theorem wp_extI {i:Nat} {e:Ex} {env:Env} {Q:Out→Env→Prop} {r:List Int} (hi:env[i]?=some (.ow (r.map .int))) (h:evR e env fun q=>r.length + q.length≤1000∧Q .nx (env.set i (.ow ((r++q).map .int)))):wp (sExt i e) env Q:=by
 obtain ⟨q,h1,h2,p⟩:=h
 refine ⟨_,_,?_,p⟩
 simp only [sExt,hi,h1,rowD]
 rw [if_pos (by rw [List.length_map,List.length_map,lim_eq];omega),List.map_append]
theorem iOf_R {r:List Int} {e:Ex} {env:Env} (h:e env=some (rowD r)):iOf e env=some (r.map .int):=by simp [iOf,h,rowD]
theorem tv_allR {i:Nat} {it:Lx} {e:Ex} {env:Env} {P:Bool→Prop} {r:List Int} (p:Int→Bool) (hit:it env=some (r.map .int)) (hl:r.length≤lim) (he:∀ x ∈ r,ev e (env.set i (.sh (.int x))) (·=.bl (p x))) (h:P (r.all p)):ev (eF1 fAll (eComp i it tTrue e)) env fun d=>∃ k,d=.bl k∧P k:=by
 refine ⟨_,?_,_,rfl,h⟩
 have hc:=compL_map (i:=i) (e:=e) (env:=env) (fun d=>match d with | .int x=>.bl (p x) | _=>.non) (r.map .int) (fun d hd=>by obtain ⟨x,hx,rfl⟩:=List.mem_map.mp hd;exact (he x hx).eq)
 have e2:(r.map D.int).map (fun d=>match d with | .int x=>D.bl (p x) | _=>.non)=r.map fun x=>.bl (p x):=by simp
 have e3:∀ q:List Int,allB (q.map fun x=>D.bl (p x))=some (q.all p):=by
  intro q
  induction q with
  | nil=>rfl
  | cons x q ih=>simp only [List.map_cons,allB,ih,List.all_cons]
 simp only [eF1,eComp,hit,List.length_map,if_pos hl,hc,e2,fAll,e3]
end PV
namespace PV
theorem wp_new {i:Nat} {e:Ex} {env:Env} {Q:Out→Env→Prop} (h:ev e env fun d=>∃ ds,d=.lst ds∧Q .nx (env.set i (.nw ds))):wp (sNew i e) env Q:=by
 obtain ⟨_,h1,ds,rfl,p⟩:=h;exact ⟨_,_,by simp only [sNew,h1],p⟩
theorem wp_appN {i:Nat} {e:Ex} {env:Env} {Q:Out→Env→Prop} {ds:List D} (hi:env[i]?=some (.nw ds)) (h:ev e env fun d=>ds.length < lim∧Q .nx (env.set i (.nw (ds++[d])))):wp (sAppN i e) env Q:=by
 obtain ⟨d,h1,q,p⟩:=h;exact ⟨_,_,by simp only [sAppN,hi,h1,if_pos q],p⟩
theorem wp_frzN {i:Nat} {env:Env} {Q:Out→Env→Prop} {ds:List D} (hi:env[i]?=some (.nw ds)) (h:Q .nx (env.set i (.fr (.lst ds)))):wp (sFrz i) env Q:=⟨_,_,by simp only [sFrz,hi],h⟩
theorem evR_fl {e:Ex} {env:Env} {P:List Int→Prop} (h:evR e env P):evR (eFl e) env P:=by
 obtain ⟨r,h1,p⟩:=h
 refine ⟨r,?_,p⟩
 simp only [eFl,h1,rowD]
 rw [if_pos (by simp [List.all_map,scalD,Function.comp_def])]
theorem evR_sort {a:Ex} {env:Env} {P:List Int→Prop} (h:evR a env fun r=>r.length < 64∧P (srt r)):evR (eF1 fSort a) env P:=by
 obtain ⟨r,h1,h2,p⟩:=h
 refine ⟨_,?_,p⟩
 simp only [eF1,h1,rowD,fSort,ints_map]
 rw [if_pos h2]
theorem compTI {i:Nat} {it:Lx} {c:Tx} {e:Ex} {env:Env} {P:List Int→Prop} {T:List (List Int)} (p:List Int→Bool) (F:List Int→Int) (hit:it env=some (T.map rowD)) (hl:T.length≤lim)
  (hc:∀ x ∈ T,tv c (env.set i (.sh (rowD x))) (·=p x)) (he:∀ x ∈ T,p x=true→evI e (env.set i (.sh (rowD x))) (·=F x)) (h:P ((T.filter p).map F)):evR (eComp i it c e) env P:=by
 have key:=eComp_filter (P:=(·=rowD ((T.filter p).map F))) (c:=c) (e:=e) (i:=i) (fun d=>match rowI? d with | some x=>p x | none=>false) (fun d=>match rowI? d with | some x=>.int (F x) | none=>.non) hit (by rw [List.length_map];exact hl)
  (fun d hd=>by obtain ⟨x,hx,rfl⟩:=List.mem_map.mp hd;simp only [rowD,rowI?,ints_map];exact hc x hx)
  (fun d hd hp=>by
   obtain ⟨x,hx,rfl⟩:=List.mem_map.mp hd
   simp only [rowD,rowI?,ints_map] at hp ⊢
   exact evI.ev (let ⟨y,h1,h2⟩:=he x hx hp;⟨y,h1,congrArg D.int h2⟩))
  (by simp [rowD,List.filter_map,Function.comp_def,rowI?,ints_map])
 exact ⟨_,key.eq,h⟩
theorem iOf_T {T:List (List Int)} {e:Ex} {env:Env} (h:e env=some (tabD T)):iOf e env=some (T.map rowD):=by simp [iOf,h,tabD]
theorem wp_appR {i:Nat} {e:Ex} {env:Env} {Q:Out→Env→Prop} {T:List (List Int)} (hi:env[i]?=some (.ow (T.map rowD))) (h:evR e env fun x=>T.length < 1000∧Q .nx (env.set i (.ow ((T++[x]).map rowD)))):wp (sApp i e) env Q:=by
 obtain ⟨x,h1,h2,p⟩:=h
 refine wp_app hi ⟨_,h1,?_,?_⟩
 ·rw [List.length_map,lim_eq];omega
 ·rw [List.map_append] at p;exact p
end PV
set_option linter.all false
set_option Elab.async false
set_option maxRecDepth 100000
set_option maxHeartbeats 4000000
namespace PV
open PySem PySem.Spec PyProof.Rows
open L2 (V Hp HO Vals SqL SqT Same upd Cx PE PT PW PA PS PSs TE TT TA TS Inv RelV upd_same upd_ne ne_of_none)
def kvV (kvs:List (Int × Int)):List (L2.Key × V):=kvs.map fun p=>(Sum.inl p.1,V.int p.2)
mutual
def Rep (K:PySem.W.Frag) (H:Hp):D→V→Prop
 | .non,v=>v=.non
 | .bl b,v=>v=.bl b
 | .int i,v=>v=.int i
 | .str x,v=>v=.str x
 | .lst ds,v=>∃ a vs,v=.ref a∧SqL K H a vs∧Reps K H ds vs
 | .tup ds,v=>∃ a vs,v=.ref a∧SqT K H a vs∧Reps K H ds vs
 | .dct kvs,v=>∃ a o,v=.ref a∧H a=some (.frz o (.dK (kvV kvs)))
def Reps (K:PySem.W.Frag) (H:Hp):List D→List V→Prop
 | [],vs=>vs=[]
 | d::ds,vs=>∃ v r,vs=v::r∧Rep K H d v∧Reps K H ds r
end
theorem seqT {K:PySem.W.Frag} {H H':Hp} {a:Addr} {xs:List V} (e:Same H H') (h:SqT K H a xs):SqT K H' a xs:=by
 rcases h with (h | ⟨o,h⟩) | h
 ·exact .inl (.inl (e _ _ h))
 ·exact .inl (.inr ⟨o,e _ _ h⟩)
 ·exact .inr h
mutual
theorem Rep.mono {K:PySem.W.Frag} {H H':Hp} (e:Same H H'):∀ (d:D) (v:V),Rep K H d v→Rep K H' d v
 | .non,_,h=>by simp only [Rep] at h ⊢;exact h
 | .bl _,_,h=>by simp only [Rep] at h ⊢;exact h
 | .int _,_,h=>by simp only [Rep] at h ⊢;exact h
 | .str _,_,h=>by simp only [Rep] at h ⊢;exact h
 | .lst ds,v,h=>by
  simp only [Rep] at h ⊢
  obtain ⟨a,vs,h1,h2,h3⟩:=h
  exact ⟨a,vs,h1,e.seq h2,Reps.mono e ds vs h3⟩
 | .tup ds,v,h=>by
  simp only [Rep] at h ⊢
  obtain ⟨a,vs,h1,h2,h3⟩:=h
  exact ⟨a,vs,h1,seqT e h2,Reps.mono e ds vs h3⟩
 | .dct kvs,v,h=>by
  simp only [Rep] at h ⊢
  obtain ⟨a,o,h1,h2⟩:=h
  exact ⟨a,o,h1,e _ _ h2⟩
theorem Reps.mono {K:PySem.W.Frag} {H H':Hp} (e:Same H H'):∀ (ds:List D) (vs:List V),Reps K H ds vs→Reps K H' ds vs
 | [],_,h=>by simp only [Reps] at h ⊢;exact h
 | d::ds,vs,h=>by
  simp only [Reps] at h ⊢
  obtain ⟨v,r,h1,h2,h3⟩:=h
  exact ⟨v,r,h1,Rep.mono e d v h2,Reps.mono e ds r h3⟩
end
section
variable {K:PySem.W.Frag} {H:Hp}
theorem Reps.nil:Reps K H [] []:=by simp [Reps]
theorem Reps.cons {d:D} {v:V} {ds:List D} {vs:List V} (h:Rep K H d v) (t:Reps K H ds vs):Reps K H (d::ds) (v::vs):=by
 simp only [Reps];exact ⟨v,vs,rfl,h,t⟩
theorem Reps.length:∀ {ds:List D} {vs:List V},Reps K H ds vs→ds.length=vs.length
 | [],vs,h=>by simp only [Reps] at h;subst h;rfl
 | d::ds,vs,h=>by
  simp only [Reps] at h
  obtain ⟨v,r,rfl,_,t⟩:=h
  simp [t.length]
theorem Reps.get:∀ {ds:List D} {vs:List V} {i:Nat} {d:D},Reps K H ds vs→ds[i]?=some d→∃ v,vs[i]?=some v∧Rep K H d v
 | [],vs,i,d,h,e=>by simp at e
 | d'::ds,vs,0,d,h,e=>by
  simp only [Reps] at h
  obtain ⟨v,r,rfl,h1,t⟩:=h
  simp at e;subst e
  exact ⟨v,rfl,h1⟩
 | d'::ds,vs,i + 1,d,h,e=>by
  simp only [Reps] at h
  obtain ⟨v,r,rfl,h1,t⟩:=h
  obtain ⟨w,q1,q2⟩:=Reps.get (i:=i) (d:=d) t (by simpa using e)
  exact ⟨w,by simpa using q1,q2⟩
theorem Reps.getV:∀ {ds:List D} {vs:List V} {i:Nat} {v:V},Reps K H ds vs→vs[i]?=some v→∃ d,ds[i]?=some d∧Rep K H d v
 | [],vs,i,v,h,e=>by simp only [Reps] at h;subst h;simp at e
 | d'::ds,vs,0,v,h,e=>by
  simp only [Reps] at h
  obtain ⟨w,r,rfl,h1,t⟩:=h
  simp at e;subst e
  exact ⟨d',rfl,h1⟩
 | d'::ds,vs,i + 1,v,h,e=>by
  simp only [Reps] at h
  obtain ⟨w,r,rfl,h1,t⟩:=h
  obtain ⟨d,q1,q2⟩:=Reps.getV (i:=i) (v:=v) t (by simpa using e)
  exact ⟨d,by simpa using q1,q2⟩
theorem Reps.append:∀ {ds es:List D} {vs ws:List V},Reps K H ds vs→Reps K H es ws→Reps K H (ds++es) (vs++ws)
 | [],es,vs,ws,h,h2=>by simp only [Reps] at h;subst h;exact h2
 | d::ds,es,vs,ws,h,h2=>by
  simp only [Reps] at h
  obtain ⟨v,r,rfl,h1,t⟩:=h
  exact Reps.cons h1 (t.append h2)
theorem Reps.take:∀ {ds:List D} {vs:List V} (n:Nat),Reps K H ds vs→Reps K H (ds.take n) (vs.take n)
 | [],vs,n,h=>by simp only [Reps] at h;subst h;simp [Reps]
 | d::ds,vs,0,h=>by simp [Reps]
 | d::ds,vs,n + 1,h=>by
  simp only [Reps] at h
  obtain ⟨v,r,rfl,h1,t⟩:=h
  exact Reps.cons h1 (t.take n)
theorem Reps.drop:∀ {ds:List D} {vs:List V} (n:Nat),Reps K H ds vs→Reps K H (ds.drop n) (vs.drop n)
 | [],vs,n,h=>by simp only [Reps] at h;subst h;simp [Reps]
 | d::ds,vs,0,h=>h
 | d::ds,vs,n + 1,h=>by
  simp only [Reps] at h
  obtain ⟨v,r,rfl,h1,t⟩:=h
  exact t.drop n
theorem Reps.set {d:D} {v:V} (h:Rep K H d v):∀ {ds:List D} {vs:List V} (i:Nat),Reps K H ds vs→Reps K H (ds.set i d) (vs.set i v)
 | [],vs,i,t=>by simp only [Reps] at t;subst t;simp [Reps]
 | e::ds,vs,0,t=>by
  simp only [Reps] at t
  obtain ⟨w,r,rfl,h1,t⟩:=t
  exact Reps.cons h t
 | e::ds,vs,i + 1,t=>by
  simp only [Reps] at t
  obtain ⟨w,r,rfl,h1,t⟩:=t
  exact Reps.cons h1 (t.set h i)
theorem Reps.insertIdx {d:D} {v:V} (h:Rep K H d v):∀ {ds:List D} {vs:List V} (i:Nat),Reps K H ds vs→Reps K H (ds.insertIdx i d) (vs.insertIdx i v)
 | ds,vs,0,t=>by simp only [List.insertIdx_zero];exact Reps.cons h t
 | [],vs,i + 1,t=>by simp only [Reps] at t;subst t;simp [Reps]
 | e::ds,vs,i + 1,t=>by
  simp only [Reps] at t
  obtain ⟨w,r,rfl,h1,t⟩:=t
  simp only [List.insertIdx_succ_cons]
  exact Reps.cons h1 (t.insertIdx h i)
theorem Reps.ints (xs:List Int):Reps K H (xs.map .int) (xs.map .int):=by
 induction xs with
 | nil=>exact Reps.nil
 | cons x xs ih=>exact Reps.cons (by simp [Rep]) ih
end
def cut (F G:Hp):Hp:=fun a=>match G a with
 | none=>F a
 | some _=>none
theorem cut_sub {F G:Hp}:Same (cut F G) F:=fun b o h=>by
 unfold cut at h
 split at h
 ·exact h
 ·cases h
theorem cut_get {F G:Hp} {a:Addr} (h:G a=none):cut F G a=F a:=by unfold cut;rw [h]
structure Ext (F H F' H':Hp):Prop where
 hh:Same H H'
 ff:Same F F'
 dm:∀ a o,F' a=some o→F a=some o∨H a=none
 fh:Same F' H'
theorem Ext.refl {F H:Hp} (h:Same F H):Ext F H F H:=⟨.refl _,.refl _,fun _ _ e=>.inl e,h⟩
theorem Ext.trans {F H F1 H1 F2 H2:Hp} (a:Ext F H F1 H1) (b:Ext F1 H1 F2 H2):Ext F H F2 H2 :=
 ⟨a.hh.trans b.hh,a.ff.trans b.ff,fun c o e=>(b.dm c o e).elim (fun q=>a.dm c o q) fun q=>.inr (a.hh.free q),b.fh⟩
theorem Ext.laid {F H:Hp} (fh:Same F H) {p:Addr} {o:HO} (hp:H p=none):Ext F H (upd F p o) (upd H p o):=by
 refine ⟨fun b u e=>?_,fun b u e=>?_,fun b u e=>?_,fun b u e=>?_⟩
 ·rw [upd_ne (ne_of_none e hp)];exact e
 ·rw [upd_ne (ne_of_none (fh _ _ e) hp)];exact e
 ·by_cases hb:b=p
  ·subst hb;exact .inr hp
  ·rw [upd_ne hb] at e;exact .inl e
 ·by_cases hb:b=p
  ·subst hb;rw [upd_same] at e ⊢;exact e
  ·rw [upd_ne hb] at e ⊢;exact fh _ _ e
theorem Ext.own {F H:Hp} (fh:Same F H) {p:Addr} {o:HO} (hp:H p=none):Ext F H F (upd H p o):=by
 have s:Same H (upd H p o):=fun b u e=>by rw [upd_ne (ne_of_none e hp)];exact e
 exact ⟨s,.refl _,fun _ _ e=>.inl e,fh.trans s⟩
theorem Ext.frz {F H F' H':Hp} (e:Ext F H F' H') {p:Addr} {o:HO} (hp:H p=none) (h':H' p=some o) (f':F' p=none):Ext F H (upd F' p o) H':=by
 refine ⟨e.hh,fun b u q=>?_,fun b u q=>?_,fun b u q=>?_⟩
 ·rw [upd_ne (ne_of_none (e.ff _ _ q) f')];exact e.ff _ _ q
 ·by_cases hb:b=p
  ·subst hb;exact .inr hp
  ·rw [upd_ne hb] at q;exact e.dm _ _ q
 ·by_cases hb:b=p
  ·subst hb;rw [upd_same] at q;cases q;exact h'
  ·rw [upd_ne hb] at q;exact e.fh _ _ q
def RowsOk (K:PySem.W.Frag) (F H:Hp):List (List D)→List Addr→Prop
 | [],as=>as=[]
 | r::rs,as=>∃ a t vs,as=a::t∧H a=some (.lst vs)∧Reps K F r vs∧RowsOk K F H rs t
theorem RowsOk.mono {K:PySem.W.Frag} {F H F' H':Hp} (ff:Same F F'):∀ {rs:List (List D)} {as:List Addr},(∀ a ∈ as,∀ o,H a=some o→H' a=some o)→RowsOk K F H rs as→RowsOk K F' H' rs as
 | [],_,_,h=>h
 | r::rs,_,hh,h=>by
  obtain ⟨a,t,vs,rfl,h1,h2,h3⟩:=h
  exact ⟨a,t,vs,rfl,hh a List.mem_cons_self _ h1,Reps.mono ff _ _ h2,RowsOk.mono ff (fun b hb=>hh b (List.mem_cons_of_mem _ hb)) h3⟩
theorem RowsOk.length {K:PySem.W.Frag} {F H:Hp}:∀ {rs:List (List D)} {as:List Addr},RowsOk K F H rs as→rs.length=as.length
 | [],_,h=>by have:_=[]:=h;rw [this];rfl
 | r::rs,_,h=>by obtain ⟨a,t,vs,rfl,_,_,h3⟩:=h;simp [h3.length]
theorem RowsOk.get {K:PySem.W.Frag} {F H:Hp}:∀ {rs:List (List D)} {as:List Addr} {j:Nat} {r:List D},RowsOk K F H rs as→rs[j]?=some r→∃ a vs,as[j]?=some a∧H a=some (.lst vs)∧Reps K F r vs
 | [],_,_,_,_,e=>by simp at e
 | r::rs,_,0,q,h,e=>by obtain ⟨a,t,vs,rfl,h1,h2,h3⟩:=h;simp at e;subst e;exact ⟨a,vs,rfl,h1,h2⟩
 | r::rs,_,j + 1,q,h,e=>by
  obtain ⟨a,t,vs,rfl,h1,h2,h3⟩:=h
  obtain ⟨b,ws,k1,k2,k3⟩:=RowsOk.get (j:=j) h3 (by simpa using e)
  exact ⟨b,ws,by simpa using k1,k2,k3⟩
theorem RowsOk.reps {K:PySem.W.Frag} {F H:Hp} (fh:Same F H):∀ {rs:List (List D)} {as:List Addr},RowsOk K F H rs as→Reps K H (rs.map .lst) (as.map .ref)
 | [],_,h=>by have e:_=[]:=h;subst e;exact Reps.nil
 | r::rs,_,h=>by
  obtain ⟨a,t,vs,rfl,h1,h2,h3⟩:=h
  exact Reps.cons (by simp only [Rep];exact ⟨a,vs,rfl,.inl (.inl h1),Reps.mono fh _ _ h2⟩) (h3.reps fh)
mutual
def RepN (H:Hp):D→V→Prop
 | .non,v=>v=.non
 | .bl b,v=>v=.bl b
 | .int i,v=>v=.int i
 | .str x,v=>v=.str x
 | .lst ds,v=>∃ a vs,v=.ref a∧H a=some (.lst vs)∧RepsN H ds vs
 | .tup ds,v=>∃ a vs,v=.ref a∧H a=some (.tup vs)∧RepsN H ds vs
 | .dct kvs,v=>∃ a o,v=.ref a∧H a=some (.frz o (.dK (kvV kvs)))
def RepsN (H:Hp):List D→List V→Prop
 | [],vs=>vs=[]
 | d::ds,vs=>∃ v r,vs=v::r∧RepN H d v∧RepsN H ds r
end
mutual
theorem RepN.rep {K:PySem.W.Frag} {H:Hp}:∀ (d:D) (v:V),RepN H d v→Rep K H d v
 | .non,_,h=>by simp only [Rep,RepN] at h ⊢;exact h
 | .bl _,_,h=>by simp only [Rep,RepN] at h ⊢;exact h
 | .int _,_,h=>by simp only [Rep,RepN] at h ⊢;exact h
 | .str _,_,h=>by simp only [Rep,RepN] at h ⊢;exact h
 | .lst ds,v,h=>by
  simp only [Rep,RepN] at h ⊢
  obtain ⟨a,vs,h1,h2,h3⟩:=h
  exact ⟨a,vs,h1,.inl (.inl h2),RepsN.reps ds vs h3⟩
 | .tup ds,v,h=>by
  simp only [Rep,RepN] at h ⊢
  obtain ⟨a,vs,h1,h2,h3⟩:=h
  exact ⟨a,vs,h1,.inl (.inl h2),RepsN.reps ds vs h3⟩
 | .dct kvs,v,h=>by simp only [Rep,RepN] at h ⊢;exact h
theorem RepsN.reps {K:PySem.W.Frag} {H:Hp}:∀ (ds:List D) (vs:List V),RepsN H ds vs→Reps K H ds vs
 | [],_,h=>by simp only [Reps,RepsN] at h ⊢;exact h
 | d::ds,vs,h=>by
  simp only [Reps,RepsN] at h ⊢
  obtain ⟨v,r,h1,h2,h3⟩:=h
  exact ⟨v,r,h1,RepN.rep d v h2,RepsN.reps ds r h3⟩
end
mutual
theorem RepN.mono {H H':Hp} (e:Same H H'):∀ (d:D) (v:V),RepN H d v→RepN H' d v
 | .non,_,h=>by simp only [RepN] at h ⊢;exact h
 | .bl _,_,h=>by simp only [RepN] at h ⊢;exact h
 | .int _,_,h=>by simp only [RepN] at h ⊢;exact h
 | .str _,_,h=>by simp only [RepN] at h ⊢;exact h
 | .lst ds,v,h=>by
  simp only [RepN] at h ⊢
  obtain ⟨a,vs,h1,h2,h3⟩:=h
  exact ⟨a,vs,h1,e _ _ h2,RepsN.mono e ds vs h3⟩
 | .tup ds,v,h=>by
  simp only [RepN] at h ⊢
  obtain ⟨a,vs,h1,h2,h3⟩:=h
  exact ⟨a,vs,h1,e _ _ h2,RepsN.mono e ds vs h3⟩
 | .dct kvs,v,h=>by
  simp only [RepN] at h ⊢
  obtain ⟨a,o,h1,h2⟩:=h
  exact ⟨a,o,h1,e _ _ h2⟩
theorem RepsN.mono {H H':Hp} (e:Same H H'):∀ (ds:List D) (vs:List V),RepsN H ds vs→RepsN H' ds vs
 | [],_,h=>by simp only [RepsN] at h ⊢;exact h
 | d::ds,vs,h=>by
  simp only [RepsN] at h ⊢
  obtain ⟨v,r,h1,h2,h3⟩:=h
  exact ⟨v,r,h1,RepN.mono e d v h2,RepsN.mono e ds r h3⟩
end
def hpL (H:Hp) (L:List Addr):Hp:=fun b=>if b ∈ L then H b else none
theorem hpL_mono {H H':Hp} {L:List Addr} (h:∀ a ∈ L,∀ o,H a=some o→H' a=some o):Same (hpL H L) (hpL H' L):=fun b o q=>by
 unfold hpL at q ⊢
 split at q
 ·rename_i hb;rw [if_pos hb];exact h b hb o q
 ·cases q
def SlOk (K:PySem.W.Frag) (B F H:Hp):Sl→Option V→List Addr→Prop
 | .un,_,_=>True
 | .sh d,ov,_=>∃ v,ov=some v∧Rep K F d v
 | .fr d,ov,_=>∃ v,ov=some v∧RepN (cut F B) d v
 | .ow ds,ov,L=>∃ a vs,ov=some (.ref a)∧L=[a]∧H a=some (.lst vs)∧Reps K F ds vs
 | .tab rs,ov,L=>∃ a as,ov=some (.ref a)∧L=a::as∧(a::as).Nodup∧H a=some (.lst (as.map .ref))∧RowsOk K F H rs as
 | .dc kvs,ov,L=>∃ a,ov=some (.ref a)∧L=[a]∧H a=some (.dK (kvV kvs))
 | .nw ds,ov,L=>∃ a vs,ov=some (.ref a)∧L=[a]∧H a=some (.lst vs)∧RepsN (cut F B) ds vs
 | .jk d,ov,L=>∃ v,ov=some v∧RepN (hpL H L) d v
 | .jl n,ov,L=>∃ a vs,ov=some (.ref a)∧a ∈ L∧H a=some (.lst vs)∧vs.length≤n
structure SOk (K:PySem.W.Frag) (BF BH F H:Hp) (σ:L2.St) (env:Env) (L:Nat→List Addr):Prop where
 s0:Same BH H
 f0:Same BF F
 fh:Same F H
 fd:∀ a o,F a=some o→BF a=some o∨BH a=none
 ow:∀ i a,a ∈ L i→F a=none∧BH a=none∧H a≠none
 dj:∀ i j a,a ∈ L i→a ∈ L j→i=j
 len:σ.length=env.length
 sl:∀ i s,env[i]?=some s→∃ ov,σ[i]?=some ov∧SlOk K BH F H s ov (L i)
theorem cut_mono {F F' G:Hp} (h:Same F F'):Same (cut F G) (cut F' G):=fun b o q=>by
 unfold cut at q ⊢
 split at q
 ·exact h _ _ q
 ·cases q
theorem SlOk.ext {K:PySem.W.Frag} {B F H F' H':Hp} {s:Sl} {ov:Option V} {L:List Addr} (ff:Same F F') (hl:∀ a ∈ L,∀ o,H a=some o→H' a=some o) (h:SlOk K B F H s ov L):SlOk K B F' H' s ov L:=by
 cases s with
 | un=>trivial
 | sh d=>obtain ⟨v,e,r⟩:=h;exact ⟨v,e,Rep.mono ff _ _ r⟩
 | fr d=>obtain ⟨v,e,r⟩:=h;exact ⟨v,e,RepN.mono (cut_mono ff) _ _ r⟩
 | ow ds=>obtain ⟨a,vs,e,rfl,h1,r⟩:=h;exact ⟨a,vs,e,rfl,hl a (by simp) _ h1,Reps.mono ff _ _ r⟩
 | tab rs =>
  obtain ⟨a,as,e,rfl,nd,h1,r⟩:=h
  exact ⟨a,as,e,rfl,nd,hl a List.mem_cons_self _ h1,r.mono ff fun b hb=>hl b (List.mem_cons_of_mem _ hb)⟩
 | dc _=>obtain ⟨a,e,rfl,h1⟩:=h;exact ⟨a,e,rfl,hl a (by simp) _ h1⟩
 | nw ds=>obtain ⟨a,vs,e,rfl,h1,r⟩:=h;exact ⟨a,vs,e,rfl,hl a (by simp) _ h1,RepsN.mono (cut_mono ff) _ _ r⟩
 | jk d=>obtain ⟨v,e,r⟩:=h;exact ⟨v,e,RepN.mono (hpL_mono hl) _ _ r⟩
 | jl n=>obtain ⟨a,vs,e,ha,h1,r⟩:=h;exact ⟨a,vs,e,ha,hl a ha _ h1,r⟩
theorem SOk.ext {K:PySem.W.Frag} {BF BH F H F' H':Hp} {σ:L2.St} {env:Env} {L:Nat→List Addr} (S:SOk K BF BH F H σ env L) (e:Ext F H F' H'):SOk K BF BH F' H' σ env L where
 s0:=S.s0.trans e.hh
 f0:=S.f0.trans e.ff
 fh:=e.fh
 fd:=fun a o q=>(e.dm a o q).elim (S.fd a o) fun z=>.inr (S.s0.free z)
 ow:=fun i a q=>by
  obtain ⟨h1,h2,h3⟩:=S.ow i a q
  refine ⟨?_,h2,?_⟩
  ·cases z:F' a with
   | none=>rfl
   | some o =>
    rcases e.dm a o z with y | y
    ·rw [h1] at y;cases y
    ·exact absurd y h3
  ·intro z
   cases y:H a with
   | none=>exact h3 y
   | some o=>rw [e.hh _ _ y] at z;cases z
 dj:=S.dj
 len:=S.len
 sl:=fun i s q=>by
  obtain ⟨ov,h1,h2⟩:=S.sl i s q
  exact ⟨ov,h1,h2.ext e.ff fun a _ o z=>e.hh a o z⟩
inductive Md where
 | r | k | f
def hpM (BH F H:Hp):Md→Hp
 | .r=>H
 | .k=>F
 | .f=>cut F BH
theorem hpM_ext {BH F H F' H':Hp} (e:Ext F H F' H'):∀ m:Md,Same (hpM BH F H m) (hpM BH F' H' m)
 | .r=>e.hh
 | .k=>e.ff
 | .f=>cut_mono e.ff
theorem hpM_r {BH F H:Hp} (fh:Same F H):∀ m:Md,Same (hpM BH F H m) H
 | .r=>.refl _
 | .k=>fh
 | .f=>cut_sub.trans fh
theorem Rep.scal {K:PySem.W.Frag} {H H':Hp} {d:D} {v:V} (hs:scalD d=true) (h:Rep K H d v):Rep K H' d v:=by
 cases d <;> simp_all [Rep,scalD]
def tD (K:PySem.W.Frag) (m:Md) (f:Ex):TE:=fun σ H Q=>∃ BF BH F env L d,SOk K BF BH F H σ env L∧f env=some d ∧
 ∀ v F' H',Ext F H F' H'→Rep K (hpM BH F' H' m) d v→Q v H'
def tTst (K:PySem.W.Frag) (t:Tx):TT:=fun σ H Q=>∃ BF BH F env L b,SOk K BF BH F H σ env L∧t env=some b ∧
 ∀ F' H',Ext F H F' H'→Q b H'
def tO (K:PySem.W.Frag) (m:Md) (f:Ex):TE:=fun σ H Q=>∃ BF BH F env L ds,SOk K BF BH F H σ env L∧f env=some (.lst ds) ∧
 ∀ a vs F' H',Ext F H F' H'→H a=none→H' a=some (.lst vs)→F' a=none→Reps K (hpM BH F' H' m) ds vs→Q (.ref a) H'
structure PD (X:Cx) (m:Md) (e:Expr) (f:Ex):Prop where
 h:PE X e (tD X.K m f)
def PDo (X:Cx) (m:Md) (e:Expr) (f:Ex):Prop:=PE X e (tO X.K m f)
def PTd (X:Cx) (e:Expr) (t:Tx):Prop:=PT X e (tTst X.K t)
theorem PE.of {X:Cx} {e:Expr} {t t':TE} (h:PE X e t') (i:∀ σ H Q,t σ H Q→t' σ H Q):PE X e t:=fun pins s σ H Q I q=>h pins s σ H Q I (i σ H Q q)
theorem PT.of {X:Cx} {e:Expr} {t t':TT} (h:PT X e t') (i:∀ σ H Q,t σ H Q→t' σ H Q):PT X e t:=fun pins s σ H Q I q=>h pins s σ H Q I (i σ H Q q)
theorem PW.of {X:Cx} {e:Expr} {t t':TT} (h:PW X e t') (i:∀ σ H Q,t σ H Q→t' σ H Q):PW X e t:=fun wh pins s σ H Q I q=>h wh pins s σ H Q I (i σ H Q q)
theorem PS.of {X:Cx} {e:Stmt} {t t':TS} (h:PS X e t') (i:∀ D σ H,t D σ H→t' D σ H):PS X e t:=fun pins s σ H D I q=>h pins s σ H D I (i D σ H q)
theorem PSs.of {X:Cx} {e:List Stmt} {t t':TS} (h:PSs X e t') (i:∀ D σ H,t D σ H→t' D σ H):PSs X e t:=fun pins s σ H D I q=>h pins s σ H D I (i D σ H q)
section
variable {X:Cx} {m:Md} {a b c:Expr} {f g h:Ex} {pos:Pos}
theorem PD.r (h:PD X m a f):PD X .r a f:=PD.mk <| PE.of h.h fun σ H Q ⟨BF,BH,F,env,L,d,S,e,q⟩ =>
 ⟨BF,BH,F,env,L,d,S,e,fun v F' H' x r=>q v F' H' x (Rep.mono (hpM_r x.fh m) _ _ r)⟩
theorem PDo.d (h:PDo X m a f) (hf:∀ env d,f env=some d→∃ ds,d=.lst ds):PD X m a f:=PD.mk <| PE.of h fun σ H Q ⟨BF,BH,F,env,L,d,S,e,q⟩=>by
 obtain ⟨ds,rfl⟩:=hf env d e
 refine ⟨BF,BH,F,env,L,ds,S,e,fun p vs F' H' x hp h1 h2 r=>?_⟩
 have x':=x.frz hp h1 h2
 refine q (.ref p) (upd F' p (.lst vs)) H' x' ?_
 have hB:BH p=none:=S.s0.free hp
 have s:Same (hpM BH F' H' m) (hpM BH (upd F' p (.lst vs)) H' m):=by
  have ss:Same F' (upd F' p (.lst vs)):=fun b u e=>by rw [upd_ne (ne_of_none e h2)];exact e
  cases m with
  | r=>exact .refl _
  | k=>exact ss
  | f=>exact cut_mono ss
 simp only [Rep]
 refine ⟨p,vs,rfl,.inl (.inl ?_),Reps.mono s _ _ r⟩
 cases m with
 | r=>exact h1
 | k=>exact upd_same
 | f=>show cut _ _ p=_;rw [cut_get hB];exact upd_same
def nst:Expr→Bool
 | .Starred _ _=>false
 | _=>true
def nsts:List Expr→Bool
 | []=>true
 | e::es=>nst e && nsts es
theorem star_cons {e:Expr} {es:List Expr} {env:PySem.Env} (h:nst e=true):starEach (e::es) env=(false,eval e env)::starEach es env:=by
 cases e <;> first | rfl | (cases h)
theorem star_one {e:Expr} {env:PySem.Env} (h:nst e=true):starEach [e] env=[(false,eval e env)]:=(star_cons h).trans rfl
theorem star_any {env:PySem.Env} {pos:Pos}:∀ {es:List Expr},nsts es=true→(backTo pos (starEach es env)).any (·.1)=false
 | [],_=>rfl
 | e::es,h=>by
  unfold nsts at h
  rw [Bool.and_eq_true] at h
  rw [star_cons h.1]
  show (false || (backTo pos (starEach es env)).any (·.1))=false
  rw [star_any h.2];rfl
theorem star_few {env:PySem.Env} {pos:Pos}:∀ {es:List Expr},nsts es=true→(backTo pos (starEach es env)).all (fun x=>!x.1)=true
 | [],_=>rfl
 | e::es,h=>by
  unfold nsts at h
  rw [Bool.and_eq_true] at h
  rw [star_cons h.1]
  show (true && (backTo pos (starEach es env)).all (fun x=>!x.1))=true
  rw [star_few h.2];rfl
theorem nsts_two {a b:Expr} (h:nst a=true) (h2:nst b=true):nsts [a,b]=true:=by unfold nsts nsts nsts;rw [h,h2];rfl
theorem nsts_one {a:Expr} (h:nst a=true):nsts [a]=true:=by unfold nsts nsts;rw [h];rfl
def visB (sc:Scope) (x:Str):Bool:=match sc.names.lookup x with
 | some .local=>true
 | some .cell=>true
 | some .free=>true
 | _=>false
theorem visB_ok {sc:Scope} {x:Str} (h:visB sc x=true):L2.Vis sc x:=by
 unfold visB at h
 split at h
 ·rename_i e;exact .inl e
 ·rename_i e;exact .inr (.inl e)
 ·rename_i e;exact .inr (.inr e)
 ·cases h
def locB (sc:Scope) (x:Str):Bool:=match sc.names.lookup x with
 | some .local=>true
 | some .cell=>true
 | _=>false
theorem locB_ok {sc:Scope} {x:Str} (h:locB sc x=true):L2.Loc sc x:=by
 unfold locB at h
 split at h
 ·rename_i e;exact .inl e
 ·rename_i e;exact .inr e
 ·cases h
def fnB (X:Cx) (x:Str):Bool:=X.fn x || (match X.env.scope.names.lookup x with
 | some .local=>true
 | _=>false)
theorem fnB_ok {X:Cx} {x:Str} (h:fnB X x=true):X.fn x=true∨X.env.scope.names.lookup x=some .local:=by
 unfold fnB at h
 rw [Bool.or_eq_true] at h
 rcases h with h | h
 ·exact .inl h
 ·split at h
  ·rename_i e;exact .inr e
  ·cases h
theorem pd_int {i j}:PD X m (.Constant (.int i) j pos) (eC (.int i)):=PD.mk <| PE.of L2.pe_int fun σ H Q ⟨BF,BH,F,env,L,d,S,e,q⟩=>by
 cases e;exact q _ F H (.refl S.fh) (by simp [Rep])
theorem pd_bl {i j}:PD X m (.Constant (.bool i) j pos) (eC (.bl i)):=PD.mk <| PE.of L2.pe_bl fun σ H Q ⟨BF,BH,F,env,L,d,S,e,q⟩=>by
 cases e;exact q _ F H (.refl S.fh) (by simp [Rep])
theorem pd_str {i j}:PD X m (.Constant (.str i) j pos) (eC (.str i)):=PD.mk <| PE.of L2.pe_str fun σ H Q ⟨BF,BH,F,env,L,d,S,e,q⟩=>by
 cases e;exact q _ F H (.refl S.fh) (by simp [Rep])
theorem pd_non {j}:PD X m (.Constant .none j pos) (eC .non):=PD.mk <| PE.of L2.pe_non fun σ H Q ⟨BF,BH,F,env,L,d,S,e,q⟩=>by
 cases e;exact q _ F H (.refl S.fh) (by simp [Rep])
theorem pd_var (i:Nat) {x:Str} (hN:X.N[i]?=some x:=by kernel_rfl) (hv:visB X.env.scope x=true:=by kernel_rfl) (hd:(x == ("__debug__":Str))=false:=by kernel_rfl)
  (hcd:(x == ("__classdict__":Str))=false:=by kernel_rfl):PD X .k (.Name x pos) (eVar i):=PD.mk <| PE.of (L2.pe_var hN (visB_ok hv) hd hcd) fun σ H Q ⟨BF,BH,F,env,L,d,S,e,q⟩=>by
 unfold eVar at e
 cases he:env[i]? with
 | none=>rw [he] at e;cases e
 | some s =>
  rw [he] at e
  obtain ⟨ov,h1,h2⟩:=S.sl i s he
  cases s with
  | sh d'=>cases e;obtain ⟨v,rfl,r⟩:=h2;exact ⟨v,h1,q v F H (.refl S.fh) r⟩
  | fr d'=>cases e;obtain ⟨v,rfl,r⟩:=h2;exact ⟨v,h1,q v F H (.refl S.fh) (RepN.rep _ _ (RepN.mono cut_sub _ _ r))⟩
  | un=>cases e
  | ow _=>cases e
  | tab _=>cases e
  | dc _=>cases e
  | nw _=>cases e
  | jk _=>cases e
  | jl _=>cases e
theorem pd_varR (i:Nat) {x:Str} (hN:X.N[i]?=some x:=by kernel_rfl) (hv:visB X.env.scope x=true:=by kernel_rfl) (hd:(x == ("__debug__":Str))=false:=by kernel_rfl)
  (hcd:(x == ("__classdict__":Str))=false:=by kernel_rfl):PD X .r (.Name x pos) (eVarR i):=PD.mk <| PE.of (L2.pe_var hN (visB_ok hv) hd hcd) fun σ H Q ⟨BF,BH,F,env,L,d,S,e,q⟩=>by
 unfold eVarR at e
 cases he:env[i]? with
 | none=>rw [he] at e;cases e
 | some s =>
  rw [he] at e
  obtain ⟨ov,h1,h2⟩:=S.sl i s he
  cases s with
  | sh d'=>cases e;obtain ⟨v,rfl,r⟩:=h2;exact ⟨v,h1,q v F H (.refl S.fh) (Rep.mono S.fh _ _ r)⟩
  | fr d'=>cases e;obtain ⟨v,rfl,r⟩:=h2;exact ⟨v,h1,q v F H (.refl S.fh) (RepN.rep _ _ (RepN.mono (cut_sub.trans S.fh) _ _ r))⟩
  | un=>cases e
  | ow ds =>
   cases e
   obtain ⟨p,vs,rfl,_,h3,r⟩:=h2
   refine ⟨_,h1,q _ F H (.refl S.fh) ?_⟩
   simp only [Rep,hpM]
   exact ⟨p,vs,rfl,.inl (.inl h3),Reps.mono S.fh _ _ r⟩
  | tab rs =>
   cases e
   obtain ⟨p,as,rfl,_,_,h3,r⟩:=h2
   refine ⟨_,h1,q _ F H (.refl S.fh) ?_⟩
   simp only [Rep,hpM]
   exact ⟨p,_,rfl,.inl (.inl h3),r.reps S.fh⟩
  | dc _=>cases e
  | nw ds =>
   cases e
   obtain ⟨p,vs,rfl,_,h3,r⟩:=h2
   refine ⟨_,h1,q _ F H (.refl S.fh) ?_⟩
   simp only [Rep,hpM]
   exact ⟨p,vs,rfl,.inl (.inl h3),RepsN.reps _ _ (RepsN.mono (cut_sub.trans S.fh) _ _ r)⟩
  | jk _=>cases e
  | jl _=>cases e
theorem pd_con {x:Str} {i:Int} (hg:X.env.kindOf x=some .globalImplicit:=by kernel_rfl) (hm:∃ t,X.mg x=some (.int i t)) (hd:(x == ("__debug__":Str))=false:=by kernel_rfl):PD X m (.Name x pos) (eC (.int i)):=by
 obtain ⟨t,hm⟩:=hm
 exact PD.mk <| PE.of (L2.pe_glob (v:=.int i) hg hm ⟨t,rfl⟩ hd) fun σ H Q ⟨BF,BH,F,env,L,d,S,e,q⟩=>by
  cases e;exact q _ F H (.refl S.fh) (by simp [Rep])
theorem pd_sc (h:PD X .r a f):PD X m a (eSc f):=PD.mk <| PE.of h.h fun σ H Q ⟨BF,BH,F,env,L,d,S,e,q⟩=>by
 unfold eSc at e
 cases he:f env with
 | none=>rw [he] at e;cases e
 | some d' =>
  rw [he] at e
  dsimp only at e
  split at e
  ·rename_i hs
   cases e
   exact ⟨BF,BH,F,env,L,_,S,he,fun v F' H' x r=>q v F' H' x (r.scal hs)⟩
  ·cases e
theorem two {m1 m2:Md} {R:V→V→Hp→Prop} {σ:L2.St} {H BF BH F:Hp} {env:Env} {L:Nat→List Addr} {x y:D} (S:SOk X.K BF BH F H σ env L) (e1:f env=some x) (e2:g env=some y)
  (k:∀ v w F' H',Ext F H F' H'→Rep X.K (hpM BH F' H' m1) x v→Rep X.K (hpM BH F' H' m2) y w→R v w H') :
  tD X.K m1 f σ H fun v H1=>tD X.K m2 g σ H1 fun w H2=>R v w H2 :=
 ⟨BF,BH,F,env,L,x,S,e1,fun v F1 H1 x1 r1=>⟨BF,BH,F1,env,L,y,S.ext x1,e2,fun w F2 H2 x2 r2=>k v w F2 H2 (x1.trans x2) (Rep.mono (hpM_ext x2 m1) _ _ r1) r2⟩⟩
theorem rep_int {K:PySem.W.Frag} {H:Hp} {i:Int} {v:V} (h:Rep K H (.int i) v):v=.int i:=by simpa [Rep] using h
theorem pd_e2I {op:Operator} {C:Int→Int→Prop} {G:Int→Int→Int} {φ:Int→Int→Option D} (ho:L2.OpR X (binaryOp op) (L2.rI C fun i j=>.int (G i j)))
  (hφ:∀ i j d,φ i j=some d→C i j∧d=.int (G i j)) {m1 m2:Md} (ha:PD X m1 a f) (hb:PD X m2 b g):PD X m (.BinOp a op b pos) (e2I φ f g) :=
 PD.mk <| PE.of (L2.pe_op ho ha.h hb.h) fun σ H Q ⟨BF,BH,F,env,L,d,S,e,q⟩=>by
  unfold e2I at e
  split at e
  ·rename_i i j h1 h2
   refine two S h1 h2 fun v w F' H' x r1 r2=>?_
   obtain ⟨hc,rfl⟩:=hφ i j d e
   exact ⟨i,j,rep_int r1,rep_int r2,hc,q _ F' H' x (by simp [Rep])⟩
  ·cases e
theorem pd_e2I0 {op:Operator} {G:Int→Int→Int} {φ:Int→Int→Option D} (ho:L2.OpR X (binaryOp op) (L2.rI0 fun i j=>.int (G i j)))
  (hφ:∀ i j d,φ i j=some d→d=.int (G i j)) {m1 m2:Md} (ha:PD X m1 a f) (hb:PD X m2 b g):PD X m (.BinOp a op b pos) (e2I φ f g) :=
 PD.mk <| PE.of (L2.pe_op ho ha.h hb.h) fun σ H Q ⟨BF,BH,F,env,L,d,S,e,q⟩=>by
  unfold e2I at e
  split at e
  ·rename_i i j h1 h2
   refine two S h1 h2 fun v w F' H' x r1 r2=>?_
   obtain rfl:=hφ i j d e
   exact ⟨i,j,rep_int r1,rep_int r2,q _ F' H' x (by simp [Rep])⟩
  ·cases e
variable {m1 m2 m3:Md}
theorem pd_iSub (ha:PD X m1 a f) (hb:PD X m2 b g):PD X m (.BinOp a .Sub b pos) (e2I iSub f g):=pd_e2I0 L2.op_sub (fun i j d h=>by cases h;rfl) ha hb
theorem pd_iMul (ha:PD X m1 a f) (hb:PD X m2 b g):PD X m (.BinOp a .Mult b pos) (e2I iMul f g):=pd_e2I L2.op_mul (fun i j d h=>by
 unfold iMul at h;split at h
 ·rename_i hc;cases h;exact ⟨hc,rfl⟩
 ·cases h) ha hb
theorem pd_iMod (ha:PD X m1 a f) (hb:PD X m2 b g):PD X m (.BinOp a .Mod b pos) (e2I iMod f g):=pd_e2I L2.op_mod (fun i j d h=>by
 unfold iMod at h;split at h
 ·rename_i hc;cases h;exact ⟨hc,rfl⟩
 ·cases h) ha hb
theorem pd_iDiv (ha:PD X m1 a f) (hb:PD X m2 b g):PD X m (.BinOp a .FloorDiv b pos) (e2I iDiv f g):=pd_e2I L2.op_fdiv (fun i j d h=>by
 unfold iDiv at h;split at h
 ·rename_i hc;cases h;exact ⟨hc,rfl⟩
 ·cases h) ha hb
end
end PV
set_option linter.all false
set_option Elab.async false
set_option maxRecDepth 100000
set_option maxHeartbeats 4000000
namespace PV
open PySem PySem.Spec PyProof.Rows
open L2 (V Hp HO Vals SqL SqT Same upd Cx PE PT PW PA PS PSs TE TT TA TS Inv RelV upd_same upd_ne ne_of_none)
mutual
def Hr (s:Shared):D→Value→Prop
 | .non,u=>u=.none
 | .bl b,u=>u=.bool b
 | .int i,u=>∃ t,u=.int i t
 | .str x,u=>∃ t,u=.str x t
 | .lst ds,u=>∃ a its,u=.ref a∧s.heap.IsList a its.toArray∧Hrs s ds its
 | .tup ds,u=>∃ a its,u=.ref a∧s.heap.IsTuple a its.toArray∧Hrs s ds its
 | .dct _,_=>False
def Hrs (s:Shared):List D→List Value→Prop
 | [],us=>us=[]
 | d::ds,us=>∃ u r,us=u::r∧Hr s d u∧Hrs s ds r
end
mutual
theorem rep_hr {X:Cx} {pins:List (Addr × Obj)} {σ:L2.St} {H:Hp} {s:Shared} (I:Inv X pins σ H s):∀ (d:D) (x:V) (u:Value),d.dep < 100→Rep X.K H d x→RelV x u→Hr s d u
 | .non,x,u,_,h,r=>by simp only [Rep] at h;subst h;simp only [Hr];exact r
 | .bl b,x,u,_,h,r=>by simp only [Rep] at h;subst h;simp only [Hr];exact r
 | .int i,x,u,_,h,r=>by simp only [Rep] at h;subst h;simp only [Hr];exact r
 | .str i,x,u,_,h,r=>by simp only [Rep] at h;subst h;simp only [Hr];exact r
 | .lst ds,x,u,hd,h,r=>by
  simp only [D.dep] at hd
  simp only [Rep] at h
  obtain ⟨a,vs,rfl,hs,t⟩:=h
  obtain ⟨its,rv,p,_⟩:=I.list hs
  cases r
  simp only [Hr]
  exact ⟨a,its,rfl,p.isList,reps_hrs I ds vs its (by omega) t rv⟩
 | .dct ds,x,u,hd,h,r=>by simp [D.dep] at hd
 | .tup ds,x,u,hd,h,r=>by
  simp only [D.dep] at hd
  simp only [Rep] at h
  obtain ⟨a,vs,rfl,hs,t⟩:=h
  obtain ⟨its,rv,p,_⟩:=I.tuple hs
  cases r
  simp only [Hr]
  exact ⟨a,its,rfl,p,reps_hrs I ds vs its (by omega) t rv⟩
theorem reps_hrs {X:Cx} {pins:List (Addr × Obj)} {σ:L2.St} {H:Hp} {s:Shared} (I:Inv X pins σ H s):∀ (ds:List D) (vs:List V) (us:List Value),D.deps ds < 100→Reps X.K H ds vs→Vals vs us→Hrs s ds us
 | [],vs,us,_,h,r=>by simp only [Reps] at h;subst h;cases r;simp [Hrs]
 | d::ds,vs,us,hd,h,r=>by
  simp only [D.deps] at hd
  simp only [Reps] at h
  obtain ⟨v,t,rfl,h1,h2⟩:=h
  cases r with
  | cons r1 r2 =>
   simp only [Hrs]
   exact ⟨_,_,rfl,rep_hr I d v _ (by omega) h1 r1,reps_hrs I ds t _ (by omega) h2 r2⟩
end
section
variable {s:Shared}
theorem Hrs.length:∀ {ds:List D} {us:List Value},Hrs s ds us→ds.length=us.length
 | [],us,h=>by simp only [Hrs] at h;subst h;rfl
 | d::ds,us,h=>by simp only [Hrs] at h;obtain ⟨u,r,rfl,_,t⟩:=h;simp [Hrs.length t]
theorem Hrs.get:∀ {ds:List D} {us:List Value} {j:Nat} (h1:j < ds.length) (h2:j < us.length),Hrs s ds us→Hr s ds[j] us[j]
 | [],us,j,h1,h2,h=>by simp at h1
 | d::ds,us,0,h1,h2,h=>by simp only [Hrs] at h;obtain ⟨u,r,rfl,x,t⟩:=h;exact x
 | d::ds,us,j + 1,h1,h2,h=>by simp only [Hrs] at h;obtain ⟨u,r,rfl,x,t⟩:=h;exact Hrs.get (j:=j) (by simpa using h1) (by simpa using h2) t
theorem isList_inj {h:Heap} {a:Addr} {xs ys:List Value} (h1:h.IsList a xs.toArray) (h2:h.IsList a ys.toArray):xs=ys:=by
 obtain ⟨o,e,c,n,d⟩:=h1
 obtain ⟨o',e',c',n',d'⟩:=h2
 rw [e] at e';cases e'
 rw [d] at d'
 injection d' with d1 _
 have:=congrArg Array.toList d1
 simpa using this
theorem isTuple_inj {h:Heap} {a:Addr} {xs ys:List Value} (h1:h.IsTuple a xs.toArray) (h2:h.IsTuple a ys.toArray):xs=ys:=by
 obtain ⟨o,e,c,n,d⟩:=h1
 obtain ⟨o',e',c',n',d'⟩:=h2
 rw [e] at e';cases e'
 rw [d] at d'
 injection d' with d1 _
 have:=congrArg Array.toList d1
 simpa using this
mutual
theorem Hr.func:∀ (d e:D) (u:Value),Hr s d u→Hr s e u→d=e
 | .lst ds,.lst es,u,h1,h2=>by
  simp only [Hr] at h1 h2
  obtain ⟨a,its,rfl,l1,r1⟩:=h1
  obtain ⟨b,its2,e,l2,r2⟩:=h2
  cases e
  obtain rfl:=isList_inj l1 l2
  rw [Hrs.func ds es its r1 r2]
 | .tup ds,.tup es,u,h1,h2=>by
  simp only [Hr] at h1 h2
  obtain ⟨a,its,rfl,l1,r1⟩:=h1
  obtain ⟨b,its2,e,l2,r2⟩:=h2
  cases e
  obtain rfl:=isTuple_inj l1 l2
  rw [Hrs.func ds es its r1 r2]
 | .lst ds,.tup es,u,h1,h2=>by
  simp only [Hr] at h1 h2
  obtain ⟨a,its,rfl,l1,r1⟩:=h1
  obtain ⟨b,its2,e,l2,r2⟩:=h2
  cases e
  exact absurd rfl (SeqAt.ne_of_list_tuple l1 l2)
 | .tup ds,.lst es,u,h1,h2=>by
  simp only [Hr] at h1 h2
  obtain ⟨a,its,rfl,l1,r1⟩:=h1
  obtain ⟨b,its2,e,l2,r2⟩:=h2
  cases e
  exact absurd rfl (SeqAt.ne_of_list_tuple l2 l1)
 | .non,e,u,h1,h2=>by simp only [Hr] at h1;subst h1;cases e <;> simp [Hr] at h2 <;> first | rfl | (obtain ⟨_,_,_,_⟩:=h2) | skip
 | .bl b,e,u,h1,h2=>by simp only [Hr] at h1;subst h1;cases e <;> simp [Hr] at h2 <;> first | (rw [h2]) | skip
 | .int i,e,u,h1,h2=>by simp only [Hr] at h1;obtain ⟨t,rfl⟩:=h1;cases e <;> simp [Hr] at h2 <;> first | (rw [h2]) | skip
 | .str i,e,u,h1,h2=>by simp only [Hr] at h1;obtain ⟨t,rfl⟩:=h1;cases e <;> simp [Hr] at h2 <;> first | (rw [h2]) | skip
 | .lst ds,.non,u,h1,h2=>by simp only [Hr] at h1 h2;obtain ⟨_,_,rfl,_⟩:=h1;cases h2
 | .lst ds,.bl _,u,h1,h2=>by simp only [Hr] at h1 h2;obtain ⟨_,_,rfl,_⟩:=h1;cases h2
 | .lst ds,.int _,u,h1,h2=>by simp only [Hr] at h1 h2;obtain ⟨_,_,rfl,_⟩:=h1;obtain ⟨_,h2⟩:=h2;cases h2
 | .lst ds,.str _,u,h1,h2=>by simp only [Hr] at h1 h2;obtain ⟨_,_,rfl,_⟩:=h1;obtain ⟨_,h2⟩:=h2;cases h2
 | .tup ds,.non,u,h1,h2=>by simp only [Hr] at h1 h2;obtain ⟨_,_,rfl,_⟩:=h1;cases h2
 | .tup ds,.bl _,u,h1,h2=>by simp only [Hr] at h1 h2;obtain ⟨_,_,rfl,_⟩:=h1;cases h2
 | .tup ds,.int _,u,h1,h2=>by simp only [Hr] at h1 h2;obtain ⟨_,_,rfl,_⟩:=h1;obtain ⟨_,h2⟩:=h2;cases h2
 | .dct _,e,u,h1,h2=>by cases h1
 | .lst _,.dct _,u,h1,h2=>by cases h2
 | .tup _,.dct _,u,h1,h2=>by cases h2
 | .tup ds,.str _,u,h1,h2=>by simp only [Hr] at h1 h2;obtain ⟨_,_,rfl,_⟩:=h1;obtain ⟨_,h2⟩:=h2;cases h2
theorem Hrs.func:∀ (ds es:List D) (us:List Value),Hrs s ds us→Hrs s es us→ds=es
 | [],[],_,_,_=>rfl
 | [],e::es,us,h1,h2=>by simp only [Hrs] at h1 h2;subst h1;obtain ⟨_,_,h,_⟩:=h2;cases h
 | d::ds,[],us,h1,h2=>by simp only [Hrs] at h1 h2;subst h2;obtain ⟨_,_,h,_⟩:=h1;cases h
 | d::ds,e::es,us,h1,h2=>by
  simp only [Hrs] at h1 h2
  obtain ⟨u,r,rfl,x,t⟩:=h1
  obtain ⟨u',r',e',x',t'⟩:=h2
  cases e'
  rw [Hr.func d e u x x',Hrs.func ds es r t t']
end
theorem eqDs_range:∀ (ds es:List D),ds.length=es.length→(List.range ds.length).all (fun j=>eqD (ds.getD j .non) (es.getD j .non))=eqDs ds es
 | [],[],_=>by simp [eqDs]
 | [],_::_,h=>by simp at h
 | _::_,[],h=>by simp at h
 | d::ds,e::es,h=>by
  have ih:=eqDs_range ds es (by simpa using h)
  rw [List.length_cons,List.range_succ_eq_map,List.all_cons,List.all_map]
  simp only [eqDs]
  rw [← ih]
  rfl
theorem eqDs_len:∀ (ds es:List D),ds.length≠es.length→eqDs ds es=false
 | [],[],h=>absurd rfl h
 | [],_::_,_=>by simp [eqDs]
 | _::_,[],_=>by simp [eqDs]
 | d::ds,e::es,h=>by simp only [eqDs,eqDs_len ds es (by simpa using h),Bool.and_false]
theorem le_deps:∀ {ds:List D} {j:Nat} (h:j < ds.length),(ds[j]).dep≤D.deps ds
 | [],_,h=>by simp at h
 | d::ds,0,h=>by simp only [D.deps];exact Nat.le_max_left _ _
 | d::ds,j + 1,h=>by simp only [D.deps];exact Nat.le_trans (le_deps (j:=j) (by simpa using h)) (Nat.le_max_right _ _)
def Ih (s:Shared) (A:Around) (x:List D):Prop:=∀ j (h:j < x.length) (e:D) (u v:Value),A.units + (x[j]).dep < cLine→Hr s x[j] u→Hr s e v→SeqAt.EqAt A s u v (eqD x[j] e)
theorem items {A:Around} {x y:List D} {xits yits:List Value} (ih:Ih s A.in1 x) (hu:A.units + D.deps x + 1 < cLine) (hl:x.length=y.length) (xr:Hrs s x xits) (yr:Hrs s y yits) :
  ∀ j (h1:j < xits.toArray.size) (h2:j < yits.toArray.size),SeqAt.EqAt A.in1 s xits.toArray[j] yits.toArray[j] (eqD (x.getD j .non) (y.getD j .non)):=fun j h1 h2=>by
 have k1:j < x.length:=by rw [xr.length];simpa using h1
 have k2:j < y.length:=by rw [← hl];exact k1
 have e1:x.getD j .non=x[j]:=by simp [List.getD,k1]
 have e2:y.getD j .non=y[j]:=by simp [List.getD,k2]
 rw [e1,e2]
 have hd:=le_deps (ds:=x) k1
 have a1:=xr.get k1 (by rw [← xr.length];exact k1)
 have a2:=yr.get k2 (by rw [← yr.length];exact k2)
 refine ih j k1 _ _ _ ?_ (by simpa using a1) (by simpa using a2)
 show A.units + 1 + _ < cLine
 omega
theorem rcAt_lists {A:Around} {xa ya:Addr} {xits yits:List Value} (x y:List D) (hu:A.units + D.deps x + 1 < cLine) (xl:s.heap.IsList xa xits.toArray) (yl:s.heap.IsList ya yits.toArray) (xr:Hrs s x xits) (yr:Hrs s y yits) (ih:Ih s A.in1 x) :
  SeqAt.RcAt A s (.ref xa) (.ref ya) (eqD (.lst x) (.lst y)):=by
 simp only [eqD]
 by_cases hl:x.length=y.length
 ·have e:=SeqAt.RcAt.lists (e:=fun j=>eqD (x.getD j .non) (y.getD j .non)) xl yl (by simp [← xr.length,← yr.length,hl]) (by omega) (items ih hu hl xr yr)
  rw [show xits.toArray.size=x.length by simp [xr.length],eqDs_range x y hl] at e
  exact e
 ·rw [eqDs_len x y hl]
  exact SeqAt.RcAt.lists_lengths xl yl (by simp [← xr.length,← yr.length,hl]) (by omega)
theorem rcAt_tuples {A:Around} {xa ya:Addr} {xits yits:List Value} (x y:List D) (hu:A.units + D.deps x + 1 < cLine) (xl:s.heap.IsTuple xa xits.toArray) (yl:s.heap.IsTuple ya yits.toArray) (xr:Hrs s x xits) (yr:Hrs s y yits) (ih:Ih s A.in1 x) :
  SeqAt.RcAt A s (.ref xa) (.ref ya) (eqD (.tup x) (.tup y)):=by
 simp only [eqD]
 have e:=SeqAt.RcAt.tuples (A:=A) (e:=fun j=>eqD (x.getD j .non) (y.getD j .non)) xl yl (by omega) (fun j h1 h2=>by
  have k1:j < x.length:=by rw [xr.length];simpa using h1
  have k2:j < y.length:=by rw [yr.length];simpa using h2
  have e1:x.getD j .non=x[j]:=by simp [List.getD,k1]
  have e2:y.getD j .non=y[j]:=by simp [List.getD,k2]
  rw [e1,e2]
  have hd:=le_deps (ds:=x) k1
  have a1:=xr.get k1 (by rw [← xr.length];exact k1)
  have a2:=yr.get k2 (by rw [← yr.length];exact k2)
  refine ih j k1 _ _ _ ?_ (by simpa using a1) (by simpa using a2)
  show A.units + 1 + _ < cLine
  omega)
 have z:((List.range (min xits.toArray.size yits.toArray.size)).all (fun j=>eqD (x.getD j .non) (y.getD j .non)) && xits.toArray.size == yits.toArray.size)=eqDs x y:=by
  rw [show xits.toArray.size=x.length by simp [xr.length],show yits.toArray.size=y.length by simp [yr.length]]
  by_cases hl:x.length=y.length
  ·rw [← hl,Nat.min_self,eqDs_range x y hl];simp
  ·rw [eqDs_len x y hl,beq_eq_false_iff_ne.mpr hl,Bool.and_false]
 rw [z] at e
 exact e
theorem eqAt_lists {A:Around} {xa ya:Addr} {xits yits:List Value} (x y:List D) (hu:A.units + D.deps x + 1 < cLine) (xl:s.heap.IsList xa xits.toArray) (yl:s.heap.IsList ya yits.toArray) (xr:Hrs s x xits) (yr:Hrs s y yits) (ih:Ih s A.in1 x) :
  SeqAt.EqAt A s (.ref xa) (.ref ya) (eqD (.lst x) (.lst y)):=by
 by_cases ha:xa=ya
 ·subst ha
  obtain rfl:=isList_inj xl yl
  obtain rfl:=Hrs.func _ _ _ xr yr
  rw [eqD_refl]
  exact SeqAt.EqAt.same _
 ·exact .of_refs ha (rcAt_lists x y hu xl yl xr yr ih)
theorem eqAt_tuples {A:Around} {xa ya:Addr} {xits yits:List Value} (x y:List D) (hu:A.units + D.deps x + 1 < cLine) (xl:s.heap.IsTuple xa xits.toArray) (yl:s.heap.IsTuple ya yits.toArray) (xr:Hrs s x xits) (yr:Hrs s y yits) (ih:Ih s A.in1 x) :
  SeqAt.EqAt A s (.ref xa) (.ref ya) (eqD (.tup x) (.tup y)):=by
 by_cases ha:xa=ya
 ·subst ha
  obtain rfl:=isTuple_inj xl yl
  obtain rfl:=Hrs.func _ _ _ xr yr
  rw [eqD_refl]
  exact SeqAt.EqAt.same _
 ·exact .of_refs ha (rcAt_tuples x y hu xl yl xr yr ih)
theorem neAt_lists {A:Around} {xa ya:Addr} {xits yits:List Value} (x y:List D) (hu:A.units + D.deps x + 1 < cLine) (xl:s.heap.IsList xa xits.toArray) (yl:s.heap.IsList ya yits.toArray) (xr:Hrs s x xits) (yr:Hrs s y yits) (ih:Ih s A.in1 x) :
  SeqAt.RcNeAt A s (.ref xa) (.ref ya) (!eqD (.lst x) (.lst y)):=by
 simp only [eqD]
 by_cases hl:x.length=y.length
 ·have e:=SeqAt.RcNeAt.lists (e:=fun j=>eqD (x.getD j .non) (y.getD j .non)) xl yl (by simp [← xr.length,← yr.length,hl]) (by omega) (items ih hu hl xr yr)
  rw [show xits.toArray.size=x.length by simp [xr.length],eqDs_range x y hl] at e
  exact e
 ·rw [eqDs_len x y hl]
  exact SeqAt.RcNeAt.lists_lengths xl yl (by simp [← xr.length,← yr.length,hl]) (by omega)
theorem neAt_tuples {A:Around} {xa ya:Addr} {xits yits:List Value} (x y:List D) (hu:A.units + D.deps x + 1 < cLine) (xl:s.heap.IsTuple xa xits.toArray) (yl:s.heap.IsTuple ya yits.toArray) (xr:Hrs s x xits) (yr:Hrs s y yits) (ih:Ih s A.in1 x) :
  SeqAt.RcNeAt A s (.ref xa) (.ref ya) (!eqD (.tup x) (.tup y)):=by
 simp only [eqD]
 have e:=SeqAt.RcNeAt.tuples (A:=A) (e:=fun j=>eqD (x.getD j .non) (y.getD j .non)) xl yl (by omega) (fun j h1 h2=>by
  have k1:j < x.length:=by rw [xr.length];simpa using h1
  have k2:j < y.length:=by rw [yr.length];simpa using h2
  have e1:x.getD j .non=x[j]:=by simp [List.getD,k1]
  have e2:y.getD j .non=y[j]:=by simp [List.getD,k2]
  rw [e1,e2]
  have hd:=le_deps (ds:=x) k1
  have a1:=xr.get k1 (by rw [← xr.length];exact k1)
  have a2:=yr.get k2 (by rw [← yr.length];exact k2)
  refine ih j k1 _ _ _ ?_ (by simpa using a1) (by simpa using a2)
  show A.units + 1 + _ < cLine
  omega)
 have z:((List.range (min xits.toArray.size yits.toArray.size)).all (fun j=>eqD (x.getD j .non) (y.getD j .non)) && xits.toArray.size == yits.toArray.size)=eqDs x y:=by
  rw [show xits.toArray.size=x.length by simp [xr.length],show yits.toArray.size=y.length by simp [yr.length]]
  by_cases hl:x.length=y.length
  ·rw [← hl,Nat.min_self,eqDs_range x y hl];simp
  ·rw [eqDs_len x y hl,beq_eq_false_iff_ne.mpr hl,Bool.and_false]
 rw [z] at e
 exact e
def D.kids:D→List D
 | .lst xs=>xs
 | .tup xs=>xs
 | _=>[]
theorem eqAt_one {A:Around} (d e:D) (u v:Value) (hu:A.units + d.dep < cLine) (h1:Hr s d u) (h2:Hr s e v) (ih:Ih s A.in1 d.kids):SeqAt.EqAt A s u v (eqD d e):=by
 have hu0:A.units < cLine:=by omega
 cases d with
 | dct x=>cases h1
 | non =>
  cases h1
  cases e with
  | dct y=>cases h2
  | non =>
   cases h2
   exact SeqAt.EqAt.same _
  | bl y =>
   cases h2
   exact SeqAt.EqAt.none_bool y
  | int y =>
   obtain ⟨yt,rfl⟩:=h2
   exact SeqAt.EqAt.none_int y yt
  | str y =>
   obtain ⟨yt,rfl⟩:=h2
   exact SeqAt.EqAt.none_str y yt
  | lst y =>
   obtain ⟨ya,yits,rfl,yl,yr⟩:=h2
   exact SeqAt.EqAt.none_list yl hu0
  | tup y =>
   obtain ⟨ya,yits,rfl,yl,yr⟩:=h2
   exact SeqAt.EqAt.none_tuple yl hu0
 | bl x =>
  cases h1
  cases e with
  | dct y=>cases h2
  | non =>
   cases h2
   exact SeqAt.EqAt.bool_none x
  | bl y =>
   cases h2
   exact SeqAt.EqAt.bool_bool x y
  | int y =>
   obtain ⟨yt,rfl⟩:=h2
   exact SeqAt.EqAt.bool_int x y yt
  | str y =>
   obtain ⟨yt,rfl⟩:=h2
   exact SeqAt.EqAt.bool_str x y yt
  | lst y =>
   obtain ⟨ya,yits,rfl,yl,yr⟩:=h2
   exact SeqAt.EqAt.bool_list x yl hu0
  | tup y =>
   obtain ⟨ya,yits,rfl,yl,yr⟩:=h2
   exact SeqAt.EqAt.bool_tuple x yl hu0
 | int x =>
  obtain ⟨xt,rfl⟩:=h1
  cases e with
  | dct y=>cases h2
  | non =>
   cases h2
   exact SeqAt.EqAt.int_none x xt
  | bl y =>
   cases h2
   exact SeqAt.EqAt.int_bool x xt y
  | int y =>
   obtain ⟨yt,rfl⟩:=h2
   exact SeqAt.EqAt.int_int x xt y yt
  | str y =>
   obtain ⟨yt,rfl⟩:=h2
   exact SeqAt.EqAt.int_str x xt y yt
  | lst y =>
   obtain ⟨ya,yits,rfl,yl,yr⟩:=h2
   exact SeqAt.EqAt.int_list x xt yl hu0
  | tup y =>
   obtain ⟨ya,yits,rfl,yl,yr⟩:=h2
   exact SeqAt.EqAt.int_tuple x xt yl hu0
 | str x =>
  obtain ⟨xt,rfl⟩:=h1
  cases e with
  | dct y=>cases h2
  | non =>
   cases h2
   exact SeqAt.EqAt.str_none x xt
  | bl y =>
   cases h2
   exact SeqAt.EqAt.str_bool x xt y
  | int y =>
   obtain ⟨yt,rfl⟩:=h2
   exact SeqAt.EqAt.str_int x xt y yt
  | str y =>
   obtain ⟨yt,rfl⟩:=h2
   exact SeqAt.EqAt.str_str x xt y yt
  | lst y =>
   obtain ⟨ya,yits,rfl,yl,yr⟩:=h2
   exact SeqAt.EqAt.str_list x xt yl hu0
  | tup y =>
   obtain ⟨ya,yits,rfl,yl,yr⟩:=h2
   exact SeqAt.EqAt.str_tuple x xt yl hu0
 | lst x =>
  obtain ⟨xa,xits,rfl,xl,xr⟩:=h1
  cases e with
  | dct y=>cases h2
  | non =>
   cases h2
   exact SeqAt.EqAt.list_none xl hu0
  | bl y =>
   cases h2
   exact SeqAt.EqAt.list_bool y xl hu0
  | int y =>
   obtain ⟨yt,rfl⟩:=h2
   exact SeqAt.EqAt.list_int y yt xl hu0
  | str y =>
   obtain ⟨yt,rfl⟩:=h2
   exact SeqAt.EqAt.list_str y yt xl hu0
  | lst y =>
   obtain ⟨ya,yits,rfl,yl,yr⟩:=h2
   exact eqAt_lists x y hu xl yl xr yr ih
  | tup y =>
   obtain ⟨ya,yits,rfl,yl,yr⟩:=h2
   exact SeqAt.EqAt.list_tuple xl yl hu0
 | tup x =>
  obtain ⟨xa,xits,rfl,xl,xr⟩:=h1
  cases e with
  | dct y=>cases h2
  | non =>
   cases h2
   exact SeqAt.EqAt.tuple_none xl hu0
  | bl y =>
   cases h2
   exact SeqAt.EqAt.tuple_bool y xl hu0
  | int y =>
   obtain ⟨yt,rfl⟩:=h2
   exact SeqAt.EqAt.tuple_int y yt xl hu0
  | str y =>
   obtain ⟨yt,rfl⟩:=h2
   exact SeqAt.EqAt.tuple_str y yt xl hu0
  | lst y =>
   obtain ⟨ya,yits,rfl,yl,yr⟩:=h2
   exact SeqAt.EqAt.tuple_list xl yl hu0
  | tup y =>
   obtain ⟨ya,yits,rfl,yl,yr⟩:=h2
   exact eqAt_tuples x y hu xl yl xr yr ih
theorem rcAt_one {A:Around} (d e:D) (u v:Value) (hu:A.units + d.dep < cLine) (h1:Hr s d u) (h2:Hr s e v) (ih:Ih s A.in1 d.kids):SeqAt.RcAt A s u v (eqD d e):=by
 have hu0:A.units < cLine:=by omega
 cases d with
 | dct x=>cases h1
 | non =>
  cases h1
  cases e with
  | dct y=>cases h2
  | non =>
   cases h2
   exact SeqAt.RcAt.none_none
  | bl y =>
   cases h2
   exact SeqAt.RcAt.none_bool y
  | int y =>
   obtain ⟨yt,rfl⟩:=h2
   exact SeqAt.RcAt.none_int y yt
  | str y =>
   obtain ⟨yt,rfl⟩:=h2
   exact SeqAt.RcAt.none_str y yt
  | lst y =>
   obtain ⟨ya,yits,rfl,yl,yr⟩:=h2
   exact SeqAt.RcAt.none_list yl hu0
  | tup y =>
   obtain ⟨ya,yits,rfl,yl,yr⟩:=h2
   exact SeqAt.RcAt.none_tuple yl hu0
 | bl x =>
  cases h1
  cases e with
  | dct y=>cases h2
  | non =>
   cases h2
   exact SeqAt.RcAt.bool_none x
  | bl y =>
   cases h2
   exact SeqAt.RcAt.bool_bool x y
  | int y =>
   obtain ⟨yt,rfl⟩:=h2
   exact SeqAt.RcAt.bool_int x y yt
  | str y =>
   obtain ⟨yt,rfl⟩:=h2
   exact SeqAt.RcAt.bool_str x y yt
  | lst y =>
   obtain ⟨ya,yits,rfl,yl,yr⟩:=h2
   exact SeqAt.RcAt.bool_list x yl hu0
  | tup y =>
   obtain ⟨ya,yits,rfl,yl,yr⟩:=h2
   exact SeqAt.RcAt.bool_tuple x yl hu0
 | int x =>
  obtain ⟨xt,rfl⟩:=h1
  cases e with
  | dct y=>cases h2
  | non =>
   cases h2
   exact SeqAt.RcAt.int_none x xt
  | bl y =>
   cases h2
   exact SeqAt.RcAt.int_bool x xt y
  | int y =>
   obtain ⟨yt,rfl⟩:=h2
   exact SeqAt.RcAt.int_int x xt y yt
  | str y =>
   obtain ⟨yt,rfl⟩:=h2
   exact SeqAt.RcAt.int_str x xt y yt
  | lst y =>
   obtain ⟨ya,yits,rfl,yl,yr⟩:=h2
   exact SeqAt.RcAt.int_list x xt yl hu0
  | tup y =>
   obtain ⟨ya,yits,rfl,yl,yr⟩:=h2
   exact SeqAt.RcAt.int_tuple x xt yl hu0
 | str x =>
  obtain ⟨xt,rfl⟩:=h1
  cases e with
  | dct y=>cases h2
  | non =>
   cases h2
   exact SeqAt.RcAt.str_none x xt
  | bl y =>
   cases h2
   exact SeqAt.RcAt.str_bool x xt y
  | int y =>
   obtain ⟨yt,rfl⟩:=h2
   exact SeqAt.RcAt.str_int x xt y yt
  | str y =>
   obtain ⟨yt,rfl⟩:=h2
   exact SeqAt.RcAt.str_str x xt y yt
  | lst y =>
   obtain ⟨ya,yits,rfl,yl,yr⟩:=h2
   exact SeqAt.RcAt.str_list x xt yl hu0
  | tup y =>
   obtain ⟨ya,yits,rfl,yl,yr⟩:=h2
   exact SeqAt.RcAt.str_tuple x xt yl hu0
 | lst x =>
  obtain ⟨xa,xits,rfl,xl,xr⟩:=h1
  cases e with
  | dct y=>cases h2
  | non =>
   cases h2
   exact SeqAt.RcAt.list_none xl hu0
  | bl y =>
   cases h2
   exact SeqAt.RcAt.list_bool y xl hu0
  | int y =>
   obtain ⟨yt,rfl⟩:=h2
   exact SeqAt.RcAt.list_int y yt xl hu0
  | str y =>
   obtain ⟨yt,rfl⟩:=h2
   exact SeqAt.RcAt.list_str y yt xl hu0
  | lst y =>
   obtain ⟨ya,yits,rfl,yl,yr⟩:=h2
   exact rcAt_lists x y hu xl yl xr yr ih
  | tup y =>
   obtain ⟨ya,yits,rfl,yl,yr⟩:=h2
   exact SeqAt.RcAt.list_tuple xl yl hu0
 | tup x =>
  obtain ⟨xa,xits,rfl,xl,xr⟩:=h1
  cases e with
  | dct y=>cases h2
  | non =>
   cases h2
   exact SeqAt.RcAt.tuple_none xl hu0
  | bl y =>
   cases h2
   exact SeqAt.RcAt.tuple_bool y xl hu0
  | int y =>
   obtain ⟨yt,rfl⟩:=h2
   exact SeqAt.RcAt.tuple_int y yt xl hu0
  | str y =>
   obtain ⟨yt,rfl⟩:=h2
   exact SeqAt.RcAt.tuple_str y yt xl hu0
  | lst y =>
   obtain ⟨ya,yits,rfl,yl,yr⟩:=h2
   exact SeqAt.RcAt.tuple_list xl yl hu0
  | tup y =>
   obtain ⟨ya,yits,rfl,yl,yr⟩:=h2
   exact rcAt_tuples x y hu xl yl xr yr ih
theorem neAt_one {A:Around} (d e:D) (u v:Value) (hu:A.units + d.dep < cLine) (h1:Hr s d u) (h2:Hr s e v) (ih:Ih s A.in1 d.kids):SeqAt.RcNeAt A s u v (!eqD d e):=by
 have hu0:A.units < cLine:=by omega
 cases d with
 | dct x=>cases h1
 | non =>
  cases h1
  cases e with
  | dct y=>cases h2
  | non =>
   cases h2
   exact SeqAt.RcNeAt.none_none
  | bl y =>
   cases h2
   exact SeqAt.RcNeAt.none_bool y
  | int y =>
   obtain ⟨yt,rfl⟩:=h2
   exact SeqAt.RcNeAt.none_int y yt
  | str y =>
   obtain ⟨yt,rfl⟩:=h2
   exact SeqAt.RcNeAt.none_str y yt
  | lst y =>
   obtain ⟨ya,yits,rfl,yl,yr⟩:=h2
   exact SeqAt.RcNeAt.none_list yl hu0
  | tup y =>
   obtain ⟨ya,yits,rfl,yl,yr⟩:=h2
   exact SeqAt.RcNeAt.none_tuple yl hu0
 | bl x =>
  cases h1
  cases e with
  | dct y=>cases h2
  | non =>
   cases h2
   exact SeqAt.RcNeAt.bool_none x
  | bl y =>
   cases h2
   exact SeqAt.RcNeAt.bool_bool x y
  | int y =>
   obtain ⟨yt,rfl⟩:=h2
   exact SeqAt.RcNeAt.bool_int x y yt
  | str y =>
   obtain ⟨yt,rfl⟩:=h2
   exact SeqAt.RcNeAt.bool_str x y yt
  | lst y =>
   obtain ⟨ya,yits,rfl,yl,yr⟩:=h2
   exact SeqAt.RcNeAt.bool_list x yl hu0
  | tup y =>
   obtain ⟨ya,yits,rfl,yl,yr⟩:=h2
   exact SeqAt.RcNeAt.bool_tuple x yl hu0
 | int x =>
  obtain ⟨xt,rfl⟩:=h1
  cases e with
  | dct y=>cases h2
  | non =>
   cases h2
   exact SeqAt.RcNeAt.int_none x xt
  | bl y =>
   cases h2
   exact SeqAt.RcNeAt.int_bool x xt y
  | int y =>
   obtain ⟨yt,rfl⟩:=h2
   exact SeqAt.RcNeAt.int_int x xt y yt
  | str y =>
   obtain ⟨yt,rfl⟩:=h2
   exact SeqAt.RcNeAt.int_str x xt y yt
  | lst y =>
   obtain ⟨ya,yits,rfl,yl,yr⟩:=h2
   exact SeqAt.RcNeAt.int_list x xt yl hu0
  | tup y =>
   obtain ⟨ya,yits,rfl,yl,yr⟩:=h2
   exact SeqAt.RcNeAt.int_tuple x xt yl hu0
 | str x =>
  obtain ⟨xt,rfl⟩:=h1
  cases e with
  | dct y=>cases h2
  | non =>
   cases h2
   exact SeqAt.RcNeAt.str_none x xt
  | bl y =>
   cases h2
   exact SeqAt.RcNeAt.str_bool x xt y
  | int y =>
   obtain ⟨yt,rfl⟩:=h2
   exact SeqAt.RcNeAt.str_int x xt y yt
  | str y =>
   obtain ⟨yt,rfl⟩:=h2
   exact SeqAt.RcNeAt.str_str x xt y yt
  | lst y =>
   obtain ⟨ya,yits,rfl,yl,yr⟩:=h2
   exact SeqAt.RcNeAt.str_list x xt yl hu0
  | tup y =>
   obtain ⟨ya,yits,rfl,yl,yr⟩:=h2
   exact SeqAt.RcNeAt.str_tuple x xt yl hu0
 | lst x =>
  obtain ⟨xa,xits,rfl,xl,xr⟩:=h1
  cases e with
  | dct y=>cases h2
  | non =>
   cases h2
   exact SeqAt.RcNeAt.list_none xl hu0
  | bl y =>
   cases h2
   exact SeqAt.RcNeAt.list_bool y xl hu0
  | int y =>
   obtain ⟨yt,rfl⟩:=h2
   exact SeqAt.RcNeAt.list_int y yt xl hu0
  | str y =>
   obtain ⟨yt,rfl⟩:=h2
   exact SeqAt.RcNeAt.list_str y yt xl hu0
  | lst y =>
   obtain ⟨ya,yits,rfl,yl,yr⟩:=h2
   exact neAt_lists x y hu xl yl xr yr ih
  | tup y =>
   obtain ⟨ya,yits,rfl,yl,yr⟩:=h2
   exact SeqAt.RcNeAt.list_tuple xl yl hu0
 | tup x =>
  obtain ⟨xa,xits,rfl,xl,xr⟩:=h1
  cases e with
  | dct y=>cases h2
  | non =>
   cases h2
   exact SeqAt.RcNeAt.tuple_none xl hu0
  | bl y =>
   cases h2
   exact SeqAt.RcNeAt.tuple_bool y xl hu0
  | int y =>
   obtain ⟨yt,rfl⟩:=h2
   exact SeqAt.RcNeAt.tuple_int y yt xl hu0
  | str y =>
   obtain ⟨yt,rfl⟩:=h2
   exact SeqAt.RcNeAt.tuple_str y yt xl hu0
  | lst y =>
   obtain ⟨ya,yits,rfl,yl,yr⟩:=h2
   exact SeqAt.RcNeAt.tuple_list xl yl hu0
  | tup y =>
   obtain ⟨ya,yits,rfl,yl,yr⟩:=h2
   exact neAt_tuples x y hu xl yl xr yr ih
mutual
theorem eqAt_D:∀ (d:D) {A:Around} (e:D) (u v:Value),A.units + d.dep < cLine→Hr s d u→Hr s e v→SeqAt.EqAt A s u v (eqD d e)
 | .lst xs,_,e,u,v,hu,h1,h2=>eqAt_one (.lst xs) e u v hu h1 h2 (eqAt_Ds xs)
 | .dct xs,_,e,u,v,hu,h1,h2=>by cases h1
 | .tup xs,_,e,u,v,hu,h1,h2=>eqAt_one (.tup xs) e u v hu h1 h2 (eqAt_Ds xs)
 | .non,_,e,u,v,hu,h1,h2=>eqAt_one .non e u v hu h1 h2 (fun j h=>by simp [D.kids] at h)
 | .bl b,_,e,u,v,hu,h1,h2=>eqAt_one (.bl b) e u v hu h1 h2 (fun j h=>by simp [D.kids] at h)
 | .int b,_,e,u,v,hu,h1,h2=>eqAt_one (.int b) e u v hu h1 h2 (fun j h=>by simp [D.kids] at h)
 | .str b,_,e,u,v,hu,h1,h2=>eqAt_one (.str b) e u v hu h1 h2 (fun j h=>by simp [D.kids] at h)
theorem eqAt_Ds:∀ (xs:List D) {A:Around},Ih s A xs
 | [],_=>fun j h=>by simp at h
 | x::xs,_=>fun j h=>match j,h with
  | 0,h=>fun e u v hu h1 h2=>eqAt_D x e u v hu h1 h2
  | j + 1,h=>fun e u v hu h1 h2=>eqAt_Ds xs j (by simpa using h) e u v hu h1 h2
end
theorem rcAt_D (d:D) {A:Around} (e:D) (u v:Value) (hu:A.units + d.dep < cLine) (h1:Hr s d u) (h2:Hr s e v):SeqAt.RcAt A s u v (eqD d e):=rcAt_one d e u v hu h1 h2 (eqAt_Ds _)
theorem neAt_D (d:D) {A:Around} (e:D) (u v:Value) (hu:A.units + d.dep < cLine) (h1:Hr s d u) (h2:Hr s e v):SeqAt.RcNeAt A s u v (!eqD d e):=neAt_one d e u v hu h1 h2 (eqAt_Ds _)
end
end PV
set_option linter.all false
set_option Elab.async false
set_option maxRecDepth 100000
set_option maxHeartbeats 4000000
namespace PV
open PySem PySem.Spec PyProof.Rows
open L2 (V Hp HO Vals SqL SqT Same upd Cx PE PT PW PA PS PSs TE TT TA TS Inv RelV upd_same upd_ne ne_of_none)
theorem rep_bl {K:PySem.W.Frag} {H:Hp} {i:Bool} {v:V} (h:Rep K H (.bl i) v):v=.bl i:=by simpa [Rep] using h
section
variable {X:Cx} {m m1 m2 m3:Md} {a b c:Expr} {f g h:Ex} {t u:Tx} {pos:Pos} {rest:List Expr}
theorem pt_of (ha:PD X m a f) (he:∀ whole,isTrue a X.env whole=(do let v ← whole;standAt a.pos;holding [v] (truthy v)):=by intro _;rfl):PTd X a (tB f) :=
 PT.of (L2.pt_val ha.h he) fun σ H Q ⟨BF,BH,F,env,L,d,S,e,q⟩=>by
  unfold tB at e
  split at e
  ·rename_i k hk
   cases e
   exact ⟨BF,BH,F,env,L,_,S,hk,fun v F' H' x r=>⟨d,rep_bl r,q F' H' x⟩⟩
  ·cases e
structure CmpOk (X:Cx) (r:L2.R2) (f g:Ex) (t:Tx):Prop where
 ok:∀ env k,t env=some k→∃ x y,f env=some x∧g env=some y∧∀ v w H' (Q:V→Hp→Prop),Rep X.K H' x v→Rep X.K H' y w→Q (.bl k) H'→r v w H' Q
theorem pv_cmp {op:CmpOp} {r:L2.R2} (ho:L2.OpR X (compareOp op) r) (hc:CmpOk X r f g t) (hm:behindInMarks op b=false) (ha:PD X m1 a f) (hb:PD X m2 b g):PD X m (.Compare a [op] [b] pos) (eB t) :=
 PD.mk <| PE.of (L2.pe_cmpR ho ha.r.h hb.r.h hm) fun σ H Q ⟨BF,BH,F,env,L,d,S,e,q⟩=>by
  unfold eB at e
  split at e
  ·rename_i k hk
   cases e
   obtain ⟨x,y,hx,hy,hr⟩:=hc.ok env k hk
   exact two S hx hy fun v w F' H' z r1 r2=>hr v w H' Q r1 r2 (q _ F' H' z (by simp [Rep]))
  ·cases e
theorem pt_cmp {op:CmpOp} {r:L2.R2} (ho:L2.OpR X (compareOp op) r) (hc:CmpOk X r f g t) (hm:behindInMarks op b=false) (ha:PD X m1 a f) (hb:PD X m2 b g):PTd X (.Compare a [op] [b] pos) t :=
 PT.of (L2.pt_cmpR ho ha.r.h hb.r.h hm) fun σ H Q ⟨BF,BH,F,env,L,k,S,e,q⟩=>by
  obtain ⟨x,y,hx,hy,hr⟩:=hc.ok env k e
  exact two S hx hy fun v w F' H' z r1 r2=>hr v w H' _ r1 r2 ⟨k,rfl,q F' H' z⟩
theorem cmp_2I {p:Int→Int→Bool} {G:Int→Int→V} (hG:∀ i j,G i j=.bl (p i j)):CmpOk X (L2.rI0 G) f g (t2I p f g):=⟨fun env k e=>by
 unfold t2I at e
 split at e
 ·rename_i i j h1 h2
  cases e
  exact ⟨_,_,h1,h2,fun v w H' Q r1 r2 q=>⟨i,j,rep_int r1,rep_int r2,by rw [hG];exact q⟩⟩
 ·cases e⟩
theorem pt_lt (ha:PD X m1 a f) (hb:PD X m2 b g):PTd X (.Compare a [.Lt] [b] pos) (t2I pLt f g):=pt_cmp L2.op_lt (cmp_2I fun _ _=>rfl) (L2.nomark _) ha hb
theorem pt_gt (ha:PD X m1 a f) (hb:PD X m2 b g):PTd X (.Compare a [.Gt] [b] pos) (t2I pGt f g):=pt_cmp L2.op_gt (cmp_2I fun _ _=>rfl) (L2.nomark _) ha hb
theorem pv_lt (ha:PD X m1 a f) (hb:PD X m2 b g):PD X m (.Compare a [.Lt] [b] pos) (eB (t2I pLt f g)):=pv_cmp L2.op_lt (cmp_2I fun _ _=>rfl) (L2.nomark _) ha hb
theorem pv_ge (ha:PD X m1 a f) (hb:PD X m2 b g):PD X m (.Compare a [.GtE] [b] pos) (eB (t2I pGe f g)):=pv_cmp L2.op_ge (cmp_2I fun _ _=>rfl) (L2.nomark _) ha hb
def rEqD (K:PySem.W.Frag) (neg:Bool):L2.R2:=fun x y H Q=>∃ dx dy,Rep K H dx x∧Rep K H dy y∧(dx.dep≤8∧dy.dep≤8)∧Q (.bl (if neg then !eqD dx dy else eqD dx dy)) H
theorem op_eqD (hu:X.A.units + 64 < cLine):L2.OpR X (compareOp .Eq) (rEqD X.K false):=by
 intro pins s σ H x y v u Q I rx ry h
 obtain ⟨dx,dy,h1,h2,hd,q⟩:=h
 exact rcAt_D dx dy v u (by omega) (rep_hr I _ _ _ (by omega) h1 rx) (rep_hr I _ _ _ (by omega) h2 ry) X.prog X.w X.xe _ ⟨.bl _,H,I,rfl,q⟩
theorem op_neD (hu:X.A.units + 64 < cLine):L2.OpR X (compareOp .NotEq) (rEqD X.K true):=by
 intro pins s σ H x y v u Q I rx ry h
 obtain ⟨dx,dy,h1,h2,hd,q⟩:=h
 exact neAt_D dx dy v u (by omega) (rep_hr I _ _ _ (by omega) h1 rx) (rep_hr I _ _ _ (by omega) h2 ry) X.prog X.w X.xe _ ⟨.bl _,H,I,rfl,q⟩
theorem cmp_eq:CmpOk X (rEqD X.K false) f g (tEq f g):=⟨fun env k e=>by
 unfold tEq at e
 split at e
 ·rename_i x y h1 h2
  split at e
  ·rename_i hd
   cases e
   exact ⟨x,y,h1,h2,fun v w H' Q r1 r2 q=>⟨x,y,r1,r2,hd,q⟩⟩
  ·cases e
 ·cases e⟩
theorem cmp_ne:CmpOk X (rEqD X.K true) f g (tNe f g):=⟨fun env k e=>by
 unfold tNe at e
 split at e
 ·rename_i x y h1 h2
  split at e
  ·rename_i hd
   cases e
   exact ⟨x,y,h1,h2,fun v w H' Q r1 r2 q=>⟨x,y,r1,r2,hd,q⟩⟩
  ·cases e
 ·cases e⟩
variable (hu:X.A.units + 64 < cLine)
include hu
theorem pt_eq (ha:PD X m1 a f) (hb:PD X m2 b g):PTd X (.Compare a [.Eq] [b] pos) (tEq f g):=pt_cmp (op_eqD hu) cmp_eq (L2.nomark _) ha hb
theorem pt_ne (ha:PD X m1 a f) (hb:PD X m2 b g):PTd X (.Compare a [.NotEq] [b] pos) (tNe f g):=pt_cmp (op_neD hu) cmp_ne (L2.nomark _) ha hb
theorem pv_eq (ha:PD X m1 a f) (hb:PD X m2 b g):PD X m (.Compare a [.Eq] [b] pos) (eB (tEq f g)):=pv_cmp (op_eqD hu) cmp_eq (L2.nomark _) ha hb
omit hu
open Classical in
noncomputable def eqH (s:Shared) (x:D) (u:Value):Bool:=if ∃ d,Hr s d u∧eqD d x=true then true else false
theorem eqH_of {s:Shared} {x d:D} {u:Value} (h:Hr s d u):eqH s x u=eqD d x:=by
 unfold eqH
 cases e:eqD d x with
 | true=>rw [if_pos ⟨d,h,e⟩]
 | false=>rw [if_neg];rintro ⟨d',h',e'⟩;rw [Hr.func _ _ _ h' h,e] at e';cases e'
theorem any_eqH {s:Shared} {x:D}:∀ {ys:List D} {us:List Value},Hrs s ys us→us.any (eqH s x)=ys.any fun y=>eqD y x
 | [],us,h=>by simp only [Hrs] at h;subst h;rfl
 | y::ys,us,h=>by
  simp only [Hrs] at h
  obtain ⟨u,r,rfl,h1,h2⟩:=h
  rw [List.any_cons,List.any_cons,eqH_of h1,any_eqH h2]
theorem mem_eqH {A:Around} {s:Shared} {x:D} {v:Value} (hx:Hr s x v):∀ {ys:List D} {us:List Value},A.units + D.deps ys < cLine→Hrs s ys us→∀ u ∈ us,SeqAt.EqAt A s u v (eqH s x u)
 | [],us,_,h=>by simp only [Hrs] at h;subst h;intro u hu;cases hu
 | y::ys,us,hd,h=>by
  simp only [Hrs] at h
  obtain ⟨u,r,rfl,h1,h2⟩:=h
  simp only [D.deps] at hd
  intro u' hu'
  rcases List.mem_cons.mp hu' with rfl | hu'
  ·rw [eqH_of h1];exact eqAt_D y x _ v (by omega) h1 hx
  ·exact mem_eqH hx (by omega) h2 u' hu'
def rInD (K:PySem.W.Frag) (neg:Bool):L2.R2:=fun x y H Q=>∃ dx ys,Rep K H dx x∧(Rep K H (.lst ys) y∨Rep K H (.tup ys) y)∧(D.deps ys≤8∧dx.dep≤8)∧Q (.bl (if neg then !inD dx ys else inD dx ys)) H
include hu
theorem op_inD:L2.OpR X (compareOp .In) (rInD X.K false):=by
 intro pins s σ H x y v u Q I rx ry h
 obtain ⟨dx,ys,h1,h2,hd,q⟩:=h
 have hx:=rep_hr I _ _ _ (by omega) h1 rx
 have hin:X.A.in1.units + D.deps ys < cLine:=by show X.A.units + 1 + _ < _;omega
 rcases h2 with h2 | h2
 ·have hy:=rep_hr I _ _ _ (by simp only [D.dep];omega) h2 ry
  simp only [Hr] at hy
  obtain ⟨p,its,rfl,hl,hr⟩:=hy
  refine SeqAt.in_listAt (eqH s dx) hl (fun w hw=>mem_eqH hx hin hr w (by simpa using hw)) ⟨.bl _,H,I,rfl,?_⟩
  rw [show its.toArray.any (eqH s dx)=its.any (eqH s dx) by simp,any_eqH hr]
  exact q
 ·have hy:=rep_hr I _ _ _ (by simp only [D.dep];omega) h2 ry
  simp only [Hr] at hy
  obtain ⟨p,its,rfl,hl,hr⟩:=hy
  refine SeqAt.in_tupleAt (eqH s dx) hl (fun w hw=>mem_eqH hx hin hr w (by simpa using hw)) ⟨.bl _,H,I,rfl,?_⟩
  rw [show its.toArray.any (eqH s dx)=its.any (eqH s dx) by simp,any_eqH hr]
  exact q
theorem op_niD:L2.OpR X (compareOp .NotIn) (rInD X.K true):=by
 intro pins s σ H x y v u Q I rx ry h
 obtain ⟨dx,ys,h1,h2,hd,q⟩:=h
 have hx:=rep_hr I _ _ _ (by omega) h1 rx
 have hin:X.A.in1.units + D.deps ys < cLine:=by show X.A.units + 1 + _ < _;omega
 rcases h2 with h2 | h2
 ·have hy:=rep_hr I _ _ _ (by simp only [D.dep];omega) h2 ry
  simp only [Hr] at hy
  obtain ⟨p,its,rfl,hl,hr⟩:=hy
  refine SeqAt.notIn_listAt (eqH s dx) hl (fun w hw=>mem_eqH hx hin hr w (by simpa using hw)) ⟨.bl _,H,I,rfl,?_⟩
  rw [show its.toArray.any (eqH s dx)=its.any (eqH s dx) by simp,any_eqH hr]
  exact q
 ·have hy:=rep_hr I _ _ _ (by simp only [D.dep];omega) h2 ry
  simp only [Hr] at hy
  obtain ⟨p,its,rfl,hl,hr⟩:=hy
  refine SeqAt.notIn_tupleAt (eqH s dx) hl (fun w hw=>mem_eqH hx hin hr w (by simpa using hw)) ⟨.bl _,H,I,rfl,?_⟩
  rw [show its.toArray.any (eqH s dx)=its.any (eqH s dx) by simp,any_eqH hr]
  exact q
omit hu
theorem cmp_in:CmpOk X (rInD X.K false) f g (tIn f g):=⟨fun env k e=>by
 unfold tIn at e
 split at e
 ·rename_i x ys h1 h2
  split at e
  ·rename_i hd;cases e;exact ⟨x,_,h1,h2,fun v w H' Q r1 r2 q=>⟨x,ys,r1,.inl r2,hd,q⟩⟩
  ·cases e
 ·rename_i x ys h1 h2
  split at e
  ·rename_i hd;cases e;exact ⟨x,_,h1,h2,fun v w H' Q r1 r2 q=>⟨x,ys,r1,.inr r2,hd,q⟩⟩
  ·cases e
 ·cases e⟩
theorem cmp_ni:CmpOk X (rInD X.K true) f g (tNi f g):=⟨fun env k e=>by
 unfold tNi at e
 split at e
 ·rename_i k' e'
  cases e
  unfold tIn at e'
  split at e'
  ·rename_i x ys h1 h2
   split at e'
   ·rename_i hd;cases e';exact ⟨x,_,h1,h2,fun v w H' Q r1 r2 q=>⟨x,ys,r1,.inl r2,hd,q⟩⟩
   ·cases e'
  ·rename_i x ys h1 h2
   split at e'
   ·rename_i hd;cases e';exact ⟨x,_,h1,h2,fun v w H' Q r1 r2 q=>⟨x,ys,r1,.inr r2,hd,q⟩⟩
   ·cases e'
  ·cases e'
 ·cases e⟩
include hu
theorem pt_in (ha:PD X m1 a f) (hb:PD X m2 b g) (hm:behindInMarks .In b=false:=by with_unfolding_all rfl):PTd X (.Compare a [.In] [b] pos) (tIn f g):=pt_cmp (op_inD hu) cmp_in hm ha hb
theorem pt_ni (ha:PD X m1 a f) (hb:PD X m2 b g) (hm:behindInMarks .NotIn b=false:=by with_unfolding_all rfl):PTd X (.Compare a [.NotIn] [b] pos) (tNi f g):=pt_cmp (op_niD hu) cmp_ni hm ha hb
theorem pv_in (ha:PD X m1 a f) (hb:PD X m2 b g) (hm:behindInMarks .In b=false:=by with_unfolding_all rfl):PD X m (.Compare a [.In] [b] pos) (eB (tIn f g)):=pv_cmp (op_inD hu) cmp_in hm ha hb
omit hu
theorem rep_isN {K:PySem.W.Frag} {H:Hp} {d:D} {v:V} (h:Rep K H d v):decide (v=.non)=d.isN:=by
 cases d <;> simp only [Rep,D.isN] at h ⊢
 ·subst h;simp
 ·subst h;simp
 ·subst h;simp
 ·subst h;simp
 ·obtain ⟨a,vs,rfl,_⟩:=h;simp
 ·obtain ⟨a,vs,rfl,_⟩:=h;simp
 ·obtain ⟨a,o,rfl,_⟩:=h;simp
theorem cmp_isN:CmpOk X (fun x y H Q=>y=.non∧Q (.bl (decide (x=.non))) H) f (eC .non) (tIsN f):=⟨fun env k e=>by
 unfold tIsN at e
 split at e
 ·rename_i x h1
  cases e
  exact ⟨x,.non,h1,rfl,fun v w H' Q r1 r2 q=>⟨by simpa [Rep] using r2,by rw [rep_isN r1];exact q⟩⟩
 ·cases e⟩
theorem cmp_noN:CmpOk X (fun x y H Q=>y=.non∧Q (.bl (!decide (x=.non))) H) f (eC .non) (tNoN f):=⟨fun env k e=>by
 unfold tNoN at e
 split at e
 ·rename_i x h1
  cases e
  exact ⟨x,.non,h1,rfl,fun v w H' Q r1 r2 q=>⟨by simpa [Rep] using r2,by rw [rep_isN r1];exact q⟩⟩
 ·cases e⟩
theorem pt_isN {j p2} (ha:PD X m1 a f):PTd X (.Compare a [.Is] [.Constant .none j p2] pos) (tIsN f):=pt_cmp L2.op_isN cmp_isN (L2.nomark _) ha (pd_non (m:=.r))
theorem pt_noN {j p2} (ha:PD X m1 a f):PTd X (.Compare a [.IsNot] [.Constant .none j p2] pos) (tNoN f):=pt_cmp L2.op_notN cmp_noN (L2.nomark _) ha (pd_non (m:=.r))
theorem pv_noN {j p2} (ha:PD X m1 a f):PD X m (.Compare a [.IsNot] [.Constant .none j p2] pos) (eB (tNoN f)):=pv_cmp L2.op_notN cmp_noN (L2.nomark _) ha (pd_non (m:=.r))
def PWd (X:Cx) (e:Expr) (t:Tx):Prop:=PW X e (tTst X.K t)
theorem pw_t (h:PWd X a t):PTd X a t:=h _
theorem pt_oneAnd (ha:PTd X a t):PWd X (.BoolOp .And [a] pos) t:=L2.pw_and1 ha
theorem pt_oneOr (ha:PTd X a t):PWd X (.BoolOp .Or [a] pos) t:=L2.pw_or1 ha
theorem pt_and (ha:PTd X a t) (hb:PWd X (.BoolOp .And (b::rest) pos) u):PWd X (.BoolOp .And (a::b::rest) pos) (tAnd t u):=PW.of (L2.pw_and ha hb) fun σ H Q ⟨BF,BH,F,env,L,k,S,e,q⟩=>by
 unfold tAnd at e
 split at e
 ·rename_i h1
  exact ⟨BF,BH,F,env,L,true,S,h1,fun F' H' z=>L2.iteT (⟨BF,BH,F',env,L,k,S.ext z,e,fun F2 H2 z2=>q F2 H2 (z.trans z2)⟩)⟩
 ·rename_i h1
  cases e
  exact ⟨BF,BH,F,env,L,false,S,h1,fun F' H' z=>L2.iteF (q F' H' z)⟩
 ·cases e
theorem pt_or (ha:PTd X a t) (hb:PWd X (.BoolOp .Or (b::rest) pos) u):PWd X (.BoolOp .Or (a::b::rest) pos) (tOr t u):=PW.of (L2.pw_or ha hb) fun σ H Q ⟨BF,BH,F,env,L,k,S,e,q⟩=>by
 unfold tOr at e
 split at e
 ·rename_i h1
  cases e
  exact ⟨BF,BH,F,env,L,true,S,h1,fun F' H' z=>L2.iteT (q F' H' z)⟩
 ·rename_i h1
  exact ⟨BF,BH,F,env,L,false,S,h1,fun F' H' z=>L2.iteF (⟨BF,BH,F',env,L,k,S.ext z,e,fun F2 H2 z2=>q F2 H2 (z.trans z2)⟩)⟩
 ·cases e
theorem pt_not (ha:PTd X a t):PTd X (.UnaryOp .Not a pos) (tNot t):=PT.of (L2.pt_not ha) fun σ H Q ⟨BF,BH,F,env,L,k,S,e,q⟩=>by
 unfold tNot at e
 split at e
 ·rename_i k' h1
  cases e
  exact ⟨BF,BH,F,env,L,k',S,h1,fun F' H' z=>q F' H' z⟩
 ·cases e
theorem pv_oneAnd (ha:PD X m a (eB t)):PD X m (.BoolOp .And [a] pos) (eB t):=PD.mk <| L2.pe_one ha.h
theorem eB_inv {env:Env} {d:D} (h:eB t env=some d):∃ k,t env=some k∧d=.bl k:=by
 unfold eB at h
 split at h
 ·rename_i k hk;cases h;exact ⟨k,hk,rfl⟩
 ·cases h
theorem eB_of {env:Env} {k:Bool} (h:t env=some k):eB t env=some (.bl k):=by unfold eB;rw [h]
theorem pv_and (ha:PD X m1 a (eB t)) (hb:PD X m2 (.BoolOp .And (b::rest) pos) (eB u)):PD X m (.BoolOp .And (a::b::rest) pos) (eB (tAnd t u)):=PD.mk <| PE.of (L2.pe_and ha.h hb.h) fun σ H Q ⟨BF,BH,F,env,L,d,S,e,q⟩=>by
 obtain ⟨k,hk,rfl⟩:=eB_inv e
 unfold tAnd at hk
 split at hk
 ·rename_i h1
  exact ⟨BF,BH,F,env,L,_,S,eB_of h1,fun v F' H' z r=>⟨true,rep_bl r,L2.iteT (⟨BF,BH,F',env,L,_,S.ext z,eB_of hk,fun w F2 H2 z2 r2=>q w F2 H2 (z.trans z2) (r2.scal rfl)⟩)⟩⟩
 ·rename_i h1
  cases hk
  exact ⟨BF,BH,F,env,L,_,S,eB_of h1,fun v F' H' z r=>⟨false,rep_bl r,L2.iteF (q _ F' H' z (by simp [Rep]))⟩⟩
 ·cases hk
end
end PV
set_option linter.all false
set_option Elab.async false
set_option maxRecDepth 100000
set_option maxHeartbeats 4000000
namespace PV
open PySem PySem.Spec PyProof.Rows
open L2 (V Hp HO Vals SqL SqT Same upd Cx PE PT PW PA PS PSs TE TT TA TS Inv RelV upd_same upd_ne ne_of_none)
structure Bt (mg:Str→Option Value):Prop where
 len:mg "len"=none
 range:mg "range"=none
 list:mg "list"=none
 all:mg "all"=none
 isinstance:mg "isinstance"=none
 max:mg "max"=none
 int:mg "int"=none
 bool:mg "bool"=none
 str:mg "str"=none
 tuple:mg "tuple"=none
 sorted:mg "sorted"=none
 set:mg "set"=none
 any:mg "any"=none
 enumerate:mg "enumerate"=none
 dict:mg "dict"=none
theorem lim_le:lim≤sizeLine:=by rw [sizeLine_eq];decide
theorem lim_lt:lim < sizeLine:=by rw [sizeLine_eq];decide
section
variable {X:Cx} {m m1 m2 m3:Md} {a b c e:Expr} {es:List Expr} {f g h:Ex} {fs:List Ex} {t u:Tx} {pos:Pos}
def tAs (K:PySem.W.Frag) (m:Md) (fs:List Ex):TA:=fun σ H Q=>∃ BF BH F env L ds,SOk K BF BH F H σ env L∧evs fs env=some ds ∧
 ∀ vs F' H',Ext F H F' H'→Reps K (hpM BH F' H' m) ds vs→Q vs H'
structure PAd (X:Cx) (m:Md) (es:List Expr) (fs:List Ex):Prop where
 h:PA X es (tAs X.K m fs)
theorem PA.of {X:Cx} {e:List Expr} {t t':TA} (h:PA X e t') (i:∀ σ H Q,t σ H Q→t' σ H Q):PA X e t:=fun pos pins s σ H Q I q=>h pos pins s σ H Q I (i σ H Q q)
theorem pa_no:PAd X m [] []:=PAd.mk <| PA.of L2.pa_nil fun σ H Q ⟨BF,BH,F,env,L,ds,S,e,q⟩=>by
 cases e;exact q [] F H (.refl S.fh) Reps.nil
theorem pa_one (ha:PD X m e f) (hr:PAd X m es fs) (hs:nst e=true:=by rfl):PAd X m (e::es) (f::fs) :=
 PAd.mk <| PA.of (L2.pa_cons ha.h hr.h (star_cons hs)) fun σ H Q ⟨BF,BH,F,env,L,ds,S,e,q⟩=>by
  simp only [evs] at e
  split at e
  ·rename_i d ds' h1 h2
   cases e
   exact ⟨BF,BH,F,env,L,d,S,h1,fun v F1 H1 x1 r1=>⟨BF,BH,F1,env,L,ds',S.ext x1,h2,fun vs F2 H2 x2 r2=>q (v::vs) F2 H2 (x1.trans x2) (Reps.cons (Rep.mono (hpM_ext x2 m) _ _ r1) r2)⟩⟩
  ·cases e
theorem evs_len {env:Env}:∀ {fs:List Ex} {ds:List D},evs fs env=some ds→ds.length=fs.length
 | [],ds,h=>by cases h;rfl
 | f::fs,ds,h=>by
  simp only [evs] at h
  split at h
  ·rename_i d ds' h1 h2;cases h;simp [evs_len h2]
  ·cases h
theorem own_new {K:PySem.W.Frag} {BF BH F F1 H H1:Hp} {σ:L2.St} {env:Env} {L:Nat→List Addr} (S:SOk K BF BH F H σ env L) (x:Ext F H F1 H1) {p:Addr} (hp:H1 p=none) (o:HO) :
  Ext F H F1 (upd H1 p o)∧H p=none∧F1 p=none∧Same (hpM BH F1 H1 m) (hpM BH F1 (upd H1 p o) m) :=
 ⟨x.trans (Ext.own x.fh hp),x.hh.free hp,x.fh.free hp,hpM_ext (Ext.own x.fh hp) m⟩
theorem po_lst (ha:PAd X m es fs) (hl:fs.length≤1000:=by decide):PDo X m (.List es pos) (eLst fs):=PE.of (L2.pe_lst ha.h) fun σ H Q ⟨BF,BH,F,env,L,ds,S,e,q⟩=>by
 unfold eLst at e
 split at e
 ·rename_i ds' h1
  cases e
  refine ⟨BF,BH,F,env,L,ds,S,h1,fun vs F' H' x r=>⟨?_,fun p hp=>?_⟩⟩
  ·rw [← r.length,evs_len h1];exact Nat.le_trans hl (by rw [sizeLine_eq];decide)
  ·obtain ⟨y,h0,h2,s⟩:=own_new (m:=m) S x hp (HO.lst vs)
   exact q p vs F' _ y h0 upd_same h2 (Reps.mono s _ _ r)
 ·cases e
theorem eLst_inv {env:Env} {d:D} (h:eLst fs env=some d):∃ ds,d=.lst ds:=by
 unfold eLst at h
 split at h
 ·cases h;exact ⟨_,rfl⟩
 ·cases h
theorem pd_lst (ha:PAd X m es fs) (hl:fs.length≤1000:=by decide):PD X m (.List es pos) (eLst fs):=(po_lst ha hl).d fun env d h=>eLst_inv h
theorem pd_tup {x1} (ha:PAd X m es fs) (hl:fs.length≤1000:=by decide):PD X m (.Tuple es x1 pos) (eTup fs):=PD.mk <| PE.of (L2.pe_tup ha.h) fun σ H Q ⟨BF,BH,F,env,L,d,S,e,q⟩=>by
 unfold eTup at e
 split at e
 ·rename_i ds' h1
  cases e
  refine ⟨BF,BH,F,env,L,ds',S,h1,fun vs F' H' x r=>⟨?_,fun p hp=>?_⟩⟩
  ·rw [← r.length,evs_len h1];exact Nat.le_trans hl (by rw [sizeLine_eq];decide)
  ·have y:=Ext.laid (o:=HO.tup vs) x.fh hp
   refine q (.ref p) _ _ (x.trans y) ?_
   simp only [Rep]
   refine ⟨p,vs,rfl,.inl (.inl ?_),Reps.mono (hpM_ext y m) _ _ r⟩
   cases m with
   | r=>exact upd_same
   | k=>exact upd_same
   | f=>show cut _ _ p=_;rw [cut_get (S.s0.free (x.hh.free hp))];exact upd_same
 ·cases e
theorem add_listsP {prog:Program} {w:World} {A:Around} {E:Value→Shared→Prop} {s:Shared} {l b:Addr} {its its2:Array Value} {Q:Value→Shared→Prop} (hl:s.heap.IsList l its) (hb:s.heap.IsList b its2)
  (h:Q (.ref s.heap.objs.size) { s with heap:=s.heap.push { cls:=.type "list",data:=.seq (its++its2) } }) (hsz:its.size + its2.size≤sizeLine):wpAny (model prog w) A (binaryOp .Add (.ref l) (.ref b)) Q E s:=by
 obtain ⟨⟨cls,dd,data,sl⟩,ho,hc,n,hd⟩:=id hl
 obtain ⟨⟨cls2,dd2,data2,sl2⟩,ho2,hc2,n2,hd2⟩:=id hb
 simp only at hc hd hc2 hd2
 subst hc hd hc2 hd2
 exact concat_meets ⟨_,ho,rfl⟩ ⟨_,ho2,rfl⟩ noFill_list_add seq_list_add PySem.F.slot_list_add PySem.F.entry_list_add (PySem.F.args_list_add_2 _ _) (list_addW l b its its2 n n2 dd dd2 sl sl2 hsz) ⟨ho,ho2,h⟩
theorem op_catD:L2.OpR X (binaryOp .Add) (fun x y H Q=>∃ l b xs zs,x=.ref l∧y=.ref b∧SqL X.K H l xs∧SqL X.K H b zs∧xs.length + zs.length≤sizeLine∧∀ p,H p=none→Q (.ref p) (upd H p (.lst (xs++zs)))):=by
 intro pins s σ H x y v u Q I rx ry h
 obtain ⟨l,b,xs,zs,rfl,rfl,hH,hB,hz,q⟩:=h
 cases rx
 cases ry
 obtain ⟨its,r,p,z⟩:=I.list hH
 obtain ⟨its2,r2,p2,z2⟩:=I.list hB
 have hl:=r.length
 have hl2:=r2.length
 have ea:its.toArray++its2.toArray=(its++its2).toArray:=by simp
 refine add_listsP p.isList p2.isList ?_ (by rw [List.size_toArray,List.size_toArray];omega)
 rw [ea]
 exact ⟨.ref _,_,I.lnew (t':=s.toks) (r.append r2) (by rw [List.length_append];omega),rfl,q _ I.fresh⟩
theorem pd_add (ha:PD X m a f) (hb:PD X m b g):PD X m (.BinOp a .Add b pos) (eAdd f g):=PD.mk <| PE.of (L2.pe_op (L2.OpR.or L2.op_add op_catD) ha.h hb.h) fun σ H Q ⟨BF,BH,F,env,L,d,S,e,q⟩=>by
 unfold eAdd eF2 at e
 split at e
 ·rename_i x y h1 h2
  unfold fAdd at e
  split at e
  ·cases e
   exact two S h1 h2 fun v w F' H' z r1 r2=>.inl ⟨_,_,rep_int r1,rep_int r2,q _ F' H' z (by simp [Rep])⟩
  ·split at e
   ·rename_i xs ys hl
    cases e
    refine two S h1 h2 fun v w F' H' z r1 r2=>.inr ?_
    simp only [Rep] at r1 r2
    obtain ⟨p1,vs,rfl,s1,t1⟩:=r1
    obtain ⟨p2,ws,rfl,s2,t2⟩:=r2
    have hh:=hpM_r (BH:=BH) z.fh m
    refine ⟨p1,p2,vs,ws,rfl,rfl,hh.seq s1,hh.seq s2,?_,fun p hp=>?_⟩
    ·rw [← t1.length,← t2.length];exact Nat.le_trans hl lim_le
    ·have y:=Ext.laid (o:=HO.lst (vs++ws)) z.fh hp
     refine q (.ref p) _ _ (z.trans y) ?_
     simp only [Rep]
     refine ⟨p,_,rfl,.inl (.inl ?_),Reps.mono (hpM_ext y m) _ _ (t1.append t2)⟩
     cases m with
     | r=>exact upd_same
     | k=>exact upd_same
     | f=>show cut _ _ p=_;rw [cut_get (S.s0.free (z.hh.free hp))];exact upd_same
   ·cases e
  ·cases e
 ·cases e
theorem atI_of {K:PySem.W.Frag} {H:Hp} {ds:List D} {vs:List V} {i:Int} {d:D} (r:Reps K H ds vs) (h:atD ds i=some d):∃ v,L2.atI vs i=some v∧Rep K H d v:=by
 unfold atD at h
 unfold L2.atI
 rw [← r.length]
 show ∃ v,((ixN ds.length i).bind fun j=>vs[j]?)=some v∧_
 cases e:ixN ds.length i with
 | none=>rw [e] at h;cases h
 | some j =>
  rw [e] at h
  obtain ⟨v,h1,h2⟩:=r.get (i:=j) h
  exact ⟨v,h1,h2⟩
theorem pd_ix (ha:PD X m a f) (hb:PD X m1 b g) (hs:L2.PlainIx b:=by exact fun _ _=>rfl):PD X m (.Subscript a b pos) (eIx f g):=PD.mk <| PE.of (L2.pe_ix L2.ix_seq ha.h hb.h hs) fun σ H Q ⟨BF,BH,F,env,L,d,S,e,q⟩=>by
 unfold eIx eF2 at e
 split at e
 ·rename_i x y h1 h2
  refine two S h1 h2 fun v w F' H' z r1 r2=>?_
  have hh:=hpM_r (BH:=BH) z.fh m
  unfold fIx at e
  split at e
  ·simp only [Rep] at r1
   obtain ⟨p,vs,rfl,s1,t1⟩:=r1
   obtain ⟨v',k1,k2⟩:=atI_of t1 e
   exact .inl ⟨p,vs,_,v',rfl,rep_int r2,hh.seq s1,k1,q _ F' H' z k2⟩
  ·simp only [Rep] at r1
   obtain ⟨p,vs,rfl,s1,t1⟩:=r1
   obtain ⟨v',k1,k2⟩:=atI_of t1 e
   exact .inr (.inl ⟨p,vs,_,v',rfl,rep_int r2,seqT hh s1,k1,q _ F' H' z k2⟩)
  ·cases e
 ·cases e
theorem pd_B1 {x:Str} {id:String} {p:Pos} {r:List V→Hp→L2.VK→Prop} {φ:D→Option D} (hc:L2.CallR X (.builtin id) r) (hm:X.mg x=none) (hv:bootBuiltins x=some (.builtin id))
  (hφ:∀ d y H' v (Q:V→Hp→Prop),φ d=some y→Rep X.K H' d v→(∀ w,Rep X.K H' y w→Q w H')→r [v] H' Q∧scalD y=true)
  (ha:PD X m1 a f) (hg:X.env.kindOf x=some .globalImplicit:=by kernel_rfl) (hn:x≠"__name__":=by decide) (hdb:(x == ("__debug__":Str))=false:=by kernel_rfl) (hs:nst a=true:=by rfl):PD X m (.Call (.Name x p) [a] [] pos) (eF1 φ f) :=
 PD.mk <| PE.of (L2.pe_callB hc hg hm hv (L2.pa_cons ha.r.h L2.pa_nil (star_one hs)) hn hdb (star_cons hs) rfl) fun σ H Q ⟨BF,BH,F,env,L,d,S,e,q⟩=>by
  unfold eF1 at e
  split at e
  ·rename_i y h1
   refine ⟨BF,BH,F,env,L,y,S,h1,fun v F' H' z r1=>?_⟩
   have sc:=(hφ y d H' v (fun _ _=>True) e r1 (fun _ _=>trivial)).2
   exact (hφ y d H' v Q e r1 fun w rw=>q w F' H' z (rw.scal sc)).1
  ·cases e
theorem pd_len {p:Pos} (T:Bt X.mg) (ha:PD X m1 a f) (hg:X.env.kindOf "len"=some .globalImplicit:=by kernel_rfl) (hs:nst a=true:=by rfl):PD X m (.Call (.Name "len" p) [a] [] pos) (eF1 fLen f) :=
 pd_B1 L2.call_len_seq T.len PySem.boot_len (fun d y H' v Q e r k=>by
  unfold fLen at e
  split at e
  ·cases e
   simp only [Rep] at r
   obtain ⟨p,vs,rfl,s1,t1⟩:=r
   exact ⟨⟨p,vs,rfl,.inl s1,k _ (by simp [Rep,t1.length])⟩,rfl⟩
  ·cases e
   simp only [Rep] at r
   obtain ⟨p,vs,rfl,s1,t1⟩:=r
   exact ⟨⟨p,vs,rfl,.inr s1,k _ (by simp [Rep,t1.length])⟩,rfl⟩
  ·cases e) ha hg (by decide) (by decide) hs
theorem call_allD (hc : X.calm = true) : L2.CallR X (.builtin "all") (fun xs H Q => ∃ (p : Addr) (bs : List Bool), xs = [.ref p] ∧ SqL X.K H p (bs.map V.bl) ∧ Q (.bl (bs.all fun b => b)) H) := by
  intro pins s σ H xs us Q I r h
  obtain ⟨p, bs, rfl, hq, q⟩ := h
  obtain ⟨u, rfl, ru⟩ := r.one
  cases ru
  obtain ⟨its, rv, pl, hz⟩ := I.list hq
  have hlt : p < s.heap.objs.size := by obtain ⟨o, e, _⟩ := pl.isList; exact Heap.lt_size e
  refine call_all_walk (wpAny_pyIter_list pl.isList ?_)
  have hlen : its.length = bs.length := by have := rv.length; rw [List.length_map] at this; exact this.symm
  have tru : ∀ (j : Nat) (v : Value), its[j]? = some v → v = .bool (bs.getD j true) := fun j v hj => by
    have hjl : j < bs.length := by rw [← hlen]; exact (List.getElem?_eq_some_iff.mp hj).1
    obtain ⟨w, h1, h2⟩ := rv.get (i := j) (x := V.bl bs[j]) (by simp [hjl])
    rw [hj] at h1; cases h1
    have : v = .bool bs[j] := h2
    rw [this]; simp [List.getD, hjl]
  refine ⟨s.heap.objs.size, _, _, _, _, _, fun j => bs.getD j true, rfl, Walks.list (show (X.A.in1).handled = none from I.ok.hd hc) s.heap.objs.size p (Nat.ne_of_lt hlt) its.toArray, ⟨⟨_, Heap.get?_push_size _ rfl, rfl, rfl⟩, pl.isList.push _⟩, ?_, fun h' tk hk => ?_⟩
  · intro i v s' Q' E' hP hq'
    have e := tru i v (by simpa using hP)
    subst e
    exact wpAny_truthy_bool hq'
  · have e : (List.range its.toArray.size).all (fun j => bs.getD j true) = bs.all fun b => b := by
      rw [List.size_toArray, hlen]
      clear tru hlen rv hq q hz
      induction bs with
      | nil => rfl
      | cons b bs ih => rw [List.length_cons, List.range_succ_eq_map, List.all_cons, List.all_map]; rw [List.all_cons]; congr 1
    rw [e]
    refine ⟨.bl _, H, I.kept (h' := h') (t' := tk) fun b o eo => ?_, rfl, q⟩
    exact hk b o (by simp; exact Nat.ne_of_lt (Heap.lt_size eo)) (Heap.get?_push_of_some _ eo)
theorem allB_inv {K:PySem.W.Frag} {H:Hp}:∀ {xs:List D} {vs:List V} {b:Bool},allB xs=some b→Reps K H xs vs→∃ bs:List Bool,vs=bs.map V.bl∧(bs.all fun b=>b)=b
 | [],vs,b,h,r=>by simp only [Reps] at r;subst r;cases h;exact ⟨[],rfl,rfl⟩
 | .bl c::xs,vs,b,h,r=>by
  simp only [Reps] at r
  obtain ⟨v,t,rfl,h1,h2⟩:=r
  simp only [allB] at h
  cases e:allB xs with
  | none=>rw [e] at h;cases h
  | some d =>
   rw [e] at h
   cases h
   obtain ⟨bs,rfl,rfl⟩:=allB_inv e h2
   obtain rfl:=rep_bl h1
   exact ⟨c::bs,rfl,rfl⟩
 | .non::_,_,_,h,_=>by simp [allB] at h
 | .int _::_,_,_,h,_=>by simp [allB] at h
 | .str _::_,_,_,h,_=>by simp [allB] at h
 | .lst _::_,_,_,h,_=>by simp [allB] at h
 | .tup _::_,_,_,h,_=>by simp [allB] at h
theorem pd_all {p:Pos} (T:Bt X.mg) (ha:PD X m1 a f) (hc:X.calm=true:=by rfl) (hg:X.env.kindOf "all"=some .globalImplicit:=by kernel_rfl) (hs:nst a=true:=by rfl):PD X m (.Call (.Name "all" p) [a] [] pos) (eF1 fAll f) :=
 pd_B1 (call_allD hc) T.all boot_all (fun d y H' v Q e r k=>by
  unfold fAll at e
  split at e
  ·split at e
   ·rename_i b hb
    cases e
    simp only [Rep] at r
    obtain ⟨p,vs,rfl,s1,t1⟩:=r
    obtain ⟨bs,rfl,rfl⟩:=allB_inv hb t1
    exact ⟨⟨p,bs,rfl,s1,k _ (by simp [Rep])⟩,rfl⟩
   ·cases e
  ·cases e) ha hg (by decide) (by decide) hs
end
end PV
set_option linter.all false
set_option Elab.async false
set_option maxRecDepth 100000
set_option maxHeartbeats 4000000
namespace PV
open PySem PySem.Spec PyProof.Rows
open L2 (V Hp HO Vals SqL SqT Same upd Cx PE PT PW PA PS PSs TE TT TA TS Inv RelV upd_same upd_ne ne_of_none)
section
variable {X:Cx} {m m1 m2 m3:Md} {a b c e:Expr} {es:List Expr} {f g h:Ex} {fs:List Ex} {t u:Tx} {pos:Pos}
theorem po_list {p:Pos} (T:Bt X.mg) (ha:PD X m a f) (hg:X.env.kindOf "list"=some .globalImplicit:=by kernel_rfl) (hs:nst a=true:=by rfl):PDo X m (.Call (.Name "list" p) [a] [] pos) (eF1 fList f) :=
 PE.of (L2.pe_callTy L2.call_list_of hg T.list (by decide +kernel) (L2.pa_cons ha.h L2.pa_nil (star_one hs)) (by decide) (by decide) (star_cons hs) rfl) fun σ H Q ⟨BF,BH,F,env,L,ds,S,e,q⟩=>by
  unfold eF1 at e
  split at e
  ·rename_i y h1
   refine ⟨BF,BH,F,env,L,y,S,h1,fun v F' H' z r1=>?_⟩
   have hm:=hpM_r (BH:=BH) z.fh m
   unfold fList at e
   split at e
   ·cases e
    simp only [Rep] at r1
    obtain ⟨p,vs,rfl,s1,t1⟩:=r1
    refine ⟨p,vs,rfl,.inl (hm.seq s1),fun l hl=>?_⟩
    obtain ⟨y,h0,h2,s⟩:=own_new (m:=m) S z hl (HO.lst vs)
    exact q l vs F' _ y h0 upd_same h2 (Reps.mono s _ _ t1)
   ·cases e
    simp only [Rep] at r1
    obtain ⟨p,vs,rfl,s1,t1⟩:=r1
    refine ⟨p,vs,rfl,.inr (seqT hm s1),fun l hl=>?_⟩
    obtain ⟨y,h0,h2,s⟩:=own_new (m:=m) S z hl (HO.lst vs)
    exact q l vs F' _ y h0 upd_same h2 (Reps.mono s _ _ t1)
   ·cases e
  ·cases e
theorem fList_inv {env:Env} {d:D} (h:eF1 fList f env=some d):∃ ds,d=.lst ds:=by
 unfold eF1 at h
 split at h
 ·unfold fList at h
  split at h
  ·cases h;exact ⟨_,rfl⟩
  ·cases h;exact ⟨_,rfl⟩
  ·cases h
 ·cases h
theorem pd_list {p:Pos} (T:Bt X.mg) (ha:PD X m a f) (hg:X.env.kindOf "list"=some .globalImplicit:=by kernel_rfl) (hs:nst a=true:=by rfl):PD X m (.Call (.Name "list" p) [a] [] pos) (eF1 fList f) :=
 (po_list T ha hg hs).d fun env d h=>fList_inv h
theorem idxD_inv {x:D}:∀ {ys:List D} {j:Nat},idxD x ys=some j→j < ys.length∧(∀ h:j < ys.length,eqD ys[j] x=true)∧∀ i (h:i < ys.length),i < j→eqD ys[i] x=false
 | [],j,h=>by simp [idxD] at h
 | y::ys,j,h=>by
  simp only [idxD] at h
  split at h
  ·rename_i hy
   cases h
   exact ⟨by simp,fun _=>hy,fun i _ hi=>by omega⟩
  ·rename_i hy
   cases e:idxD x ys with
   | none=>rw [e] at h;cases h
   | some k =>
    rw [e] at h
    cases h
    obtain ⟨h1,h2,h3⟩:=idxD_inv e
    refine ⟨by simpa using h1,fun _=>by simpa using h2 h1,fun i hi hik=>?_⟩
    cases i with
    | zero=>simpa using hy
    | succ i=>simpa using h3 i (by simpa using hi) (by omega)
theorem mt_indexD (hu:X.A.units + 64 < cLine):L2.MtR X "list.index" (fun x xs H Q=>∃ (dx:D) (y:V) (ys:List D) (j:Nat),xs=[y]∧Rep X.K H (.lst ys) x∧Rep X.K H dx y∧(D.deps ys≤8∧dx.dep≤8)∧idxD dx ys=some j∧Q (.int j) H):=by
 intro pins s σ H x xs v us Q I rx rv h
 obtain ⟨dx,y,ys,j,rfl,h1,h2,hd,hj,q⟩:=h
 obtain ⟨u,rfl,ru⟩:=rv.one
 have hx:=rep_hr I _ _ _ (by omega) h2 ru
 have hz:ys.length≤sizeLine:=by
  simp only [Rep] at h1
  obtain ⟨p,vs,rfl,hs,t⟩:=h1
  obtain ⟨_,_,_,z⟩:=I.list hs
  rw [t.length];exact z
 have hy:=rep_hr I _ _ _ (by simp only [D.dep];omega) h1 rx
 simp only [Hr] at hy
 obtain ⟨p,its,rfl,hl,hr⟩:=hy
 have hin:X.A.in1.units + D.deps ys < cLine:=by show X.A.units + 1 + _ < _;omega
 have hlen:=hr.length
 obtain ⟨j1,j2,j3⟩:=idxD_inv hj
 have js:(j:Int) < 2 ^ 63 - 1:=by rw [sizeLine_eq] at hz;omega
 obtain ⟨⟨cls,dd,data,sl⟩,ho,hc,n,hdt⟩:=id hl
 simp only at hc hdt
 subst hc hdt
 refine call_meets PySem.F.slot_list_index ⟨_,ho,rfl⟩ PySem.F.entry_list_index (PySem.F.args_list_index_2 _ _)
  (SeqAt.list_indexAt p its.toArray n dd sl u (eqH s dx) j (by simp;omega) js ?_ ?_) ⟨ho,fun y hy=>mem_eqH hx hin hr y (by simpa using hy),?_⟩
 all_goals first
  | exact ⟨.int j,H,I.tok _,⟨_,rfl⟩,q⟩
  | skip
 ·have e:=hr.get j1 (by omega)
  have:=eqH_of (x:=dx) e
  simp only [List.getElem_toArray]
  rw [this]
  exact j2 j1
 ·intro i hi hij
  have i1:i < ys.length:=by rw [hlen];simpa using hi
  have e:=hr.get i1 (by omega)
  have:=eqH_of (x:=dx) e
  simp only [List.getElem_toArray]
  rw [this]
  exact j3 i i1 hij
end
end PV
set_option linter.all false
set_option Elab.async false
set_option maxRecDepth 100000
set_option maxHeartbeats 4000000
namespace PV
open PySem PySem.Spec PyProof.Rows
open L2 (V Hp HO Vals SqL SqT Same upd Cx PE PT PW PA PS PSs TE TT TA TS Inv RelV upd_same upd_ne ne_of_none)
def putL (L:Nat→List Addr) (i:Nat) (l:List Addr):Nat→List Addr:=fun j=>if j=i then l else L j
theorem putL_same {L:Nat→List Addr} {i:Nat} {l:List Addr}:putL L i l i=l:=by unfold putL;rw [if_pos rfl]
theorem putL_ne {L:Nat→List Addr} {i j:Nat} {l:List Addr} (h:j≠i):putL L i l j=L j:=by unfold putL;rw [if_neg h]
section
variable {K:PySem.W.Frag} {BF BH F H:Hp} {σ:L2.St} {env:Env} {L:Nat→List Addr}
theorem SOk.toExt (S:SOk K BF BH F H σ env L):Ext BF BH F H:=⟨S.s0,S.f0,S.fd,S.fh⟩
theorem SOk.set (S:SOk K BF BH F H σ env L) (i:Nat) {s:Sl} {v:V} {l:List Addr} (hs:SlOk K BH F H s (some v) l) (ho:∀ a ∈ l,F a=none∧BH a=none∧H a≠none) (hd:∀ a ∈ l,∀ j,j≠i→a ∉ L j) :
  SOk K BF BH F H (σ.set i (some v)) (env.set i s) (putL L i l) where
 s0:=S.s0
 f0:=S.f0
 fh:=S.fh
 fd:=S.fd
 ow:=fun j a h=>by
  by_cases hj:j=i
  ·subst hj;rw [putL_same] at h;exact ho a h
  ·rw [putL_ne hj] at h;exact S.ow j a h
 dj:=fun j k a h1 h2=>by
  by_cases hj:j=i
  ·subst hj
   rw [putL_same] at h1
   by_cases hk:k=j
   ·exact hk.symm
   ·rw [putL_ne hk] at h2;exact absurd h2 (hd a h1 k hk)
  ·rw [putL_ne hj] at h1
   by_cases hk:k=i
   ·subst hk;rw [putL_same] at h2;exact absurd h1 (hd a h2 j hj)
   ·rw [putL_ne hk] at h2;exact S.dj j k a h1 h2
 len:=by rw [List.length_set,List.length_set];exact S.len
 sl:=fun j s' h=>by
  by_cases hj:i=j
  ·subst hj
   have hlt:i < env.length:=by have:=(List.getElem?_eq_some_iff.mp h).1;rwa [List.length_set] at this
   rw [List.getElem?_set_self hlt] at h
   cases h
   exact ⟨some v,List.getElem?_set_self (by rw [S.len];exact hlt),by rw [putL_same];exact hs⟩
  ·rw [List.getElem?_set_ne hj] at h
   obtain ⟨ov,h1,h2⟩:=S.sl j s' h
   exact ⟨ov,by rw [List.getElem?_set_ne hj];exact h1,by rw [putL_ne (Ne.symm hj)];exact h2⟩
theorem SOk.setSh (S:SOk K BF BH F H σ env L) (i:Nat) {d:D} {v:V} (r:Rep K F d v):SOk K BF BH F H (σ.set i (some v)) (env.set i (.sh d)) (putL L i []) :=
 S.set i ⟨v,rfl,r⟩ (fun a h=>by cases h) (fun a h=>by cases h)
def frzH (F H:Hp) (l:List Addr):Hp:=fun b=>if b ∈ l then H b else F b
theorem frz_in {F H:Hp} {l:List Addr} {b:Addr} (h:b ∈ l):frzH F H l b=H b:=by unfold frzH;rw [if_pos h]
theorem frz_out {F H:Hp} {l:List Addr} {b:Addr} (h:b ∉ l):frzH F H l b=F b:=by unfold frzH;rw [if_neg h]
theorem SOk.frz (S:SOk K BF BH F H σ env L) (i:Nat) {s s':Sl} (he:env[i]?=some s) (hs:∀ ov,σ[i]?=some ov→SlOk K BH F H s ov (L i)→Same F (frzH F H (L i))→SlOk K BH (frzH F H (L i)) H s' ov []) :
  SOk K BF BH (frzH F H (L i)) H σ (env.set i s') (putL L i []):=by
 have ff:Same F (frzH F H (L i)):=fun b o h=>by
  by_cases hb:b ∈ L i
  ·rw [(S.ow i b hb).1] at h;cases h
  ·rw [frz_out hb];exact h
 refine ⟨S.s0,S.f0.trans ff,fun b o h=>?_,fun b o h=>?_,fun j a h=>?_,fun j k a h1 h2=>?_,by rw [List.length_set];exact S.len,fun j t h=>?_⟩
 ·by_cases hb:b ∈ L i
  ·rw [frz_in hb] at h;exact h
  ·rw [frz_out hb] at h;exact S.fh _ _ h
 ·by_cases hb:b ∈ L i
  ·exact .inr (S.ow i b hb).2.1
  ·rw [frz_out hb] at h;exact S.fd _ _ h
 ·by_cases hj:j=i
  ·subst hj;rw [putL_same] at h;cases h
  ·rw [putL_ne hj] at h
   obtain ⟨h1,h2,h3⟩:=S.ow j a h
   exact ⟨by rw [frz_out fun z=>hj (S.dj j i a h z)];exact h1,h2,h3⟩
 ·by_cases hj:j=i
  ·subst hj;rw [putL_same] at h1;cases h1
  ·by_cases hk:k=i
   ·subst hk;rw [putL_same] at h2;cases h2
   ·rw [putL_ne hj] at h1;rw [putL_ne hk] at h2;exact S.dj j k a h1 h2
 ·by_cases hj:i=j
  ·subst hj
   have hlt:i < env.length:=(List.getElem?_eq_some_iff.mp he).1
   rw [List.getElem?_set_self hlt] at h
   cases h
   obtain ⟨ov,h1,h2⟩:=S.sl i s he
   exact ⟨ov,h1,by rw [putL_same];exact hs ov h1 h2 ff⟩
  ·rw [List.getElem?_set_ne hj] at h
   obtain ⟨ov,h1,h2⟩:=S.sl j t h
   exact ⟨ov,h1,by rw [putL_ne (Ne.symm hj)];exact h2.ext ff fun a _ o z=>z⟩
theorem SOk.frzSame (S:SOk K BF BH F H σ env L) (i:Nat):Same F (frzH F H (L i)):=fun b o h=>by
 by_cases hb:b ∈ L i
 ·rw [(S.ow i b hb).1] at h;cases h
 ·rw [frz_out hb];exact h
theorem SOk.own (S:SOk K BF BH F H σ env L) {i:Nat} {a:Addr} (ha:a ∈ L i) (o:HO) {s':Sl} (hs:∀ s ov,env[i]?=some s→σ[i]?=some ov→SlOk K BH F H s ov (L i)→SlOk K BH F (upd H a o) s' ov (L i)) :
  SOk K BF BH F (upd H a o) σ (env.set i s') L:=by
 obtain ⟨fa,ba,ha'⟩:=S.ow i a ha
 refine ⟨fun b u h=>?_,S.f0,fun b u h=>?_,S.fd,fun j c h=>?_,S.dj,by rw [List.length_set];exact S.len,fun j t h=>?_⟩
 ·rw [upd_ne (ne_of_none h ba)];exact S.s0 _ _ h
 ·rw [upd_ne (ne_of_none h fa)];exact S.fh _ _ h
 ·obtain ⟨h1,h2,h3⟩:=S.ow j c h
  refine ⟨h1,h2,?_⟩
  by_cases hc:c=a
  ·subst hc;rw [upd_same];simp
  ·rw [upd_ne hc];exact h3
 ·by_cases hj:i=j
  ·subst hj
   have hlt:i < env.length:=by have:=(List.getElem?_eq_some_iff.mp h).1;rwa [List.length_set] at this
   rw [List.getElem?_set_self hlt] at h
   cases h
   obtain ⟨ov,h1,h2⟩:=S.sl i env[i] (by simp [hlt])
   exact ⟨ov,h1,hs _ _ (by simp [hlt]) h1 h2⟩
  ·rw [List.getElem?_set_ne hj] at h
   obtain ⟨ov,h1,h2⟩:=S.sl j t h
   refine ⟨ov,h1,h2.ext (.refl _) fun c hc u z=>?_⟩
   have hca:c≠a:=fun e=>by subst e;exact hj (S.dj i j c ha hc)
   rw [upd_ne hca]
   exact z
end
abbrev RetP:=Hp→Hp→Hp→D→V→Prop
def rk (K:PySem.W.Frag) (m:Md):RetP:=fun BH F' H' d v=>Rep K (hpM BH F' H' m) d v
def rT (K:PySem.W.Frag):RetP:=fun BH F' H' d v=>∃ a as rs,d=.lst (rs.map .lst)∧v=.ref a∧H' a=some (.lst (as.map .ref))∧RowsOk K F' H' rs as∧(a::as).Nodup∧∀ b ∈ a::as,BH b=none∧F' b=none
def After (D0:L2.Ends) (m:RetP) (BH F' H':Hp) (σ':L2.St):Out→Prop
 | .nx=>D0.nx σ' H'
 | .bk=>D0.bk σ' H'
 | .ct=>D0.ct σ' H'
 | .rt d=>∀ v,m BH F' H' d v→D0.rt v H'
def tS (K:PySem.W.Frag) (m:RetP) (g:St):TS:=fun D0 σ H=>∃ BF BH F env L o env',SOk K BF BH F H σ env L∧g env=some (o,env') ∧
 ∀ F' H' σ' L',SOk K BF BH F' H' σ' env' L'→Same F F'→After D0 m BH F' H' σ' o
structure PSd (X:Cx) (m:RetP) (st:List Stmt) (g:St):Prop where
 h:PSs X st (tS X.K m g)
structure PS1 (X:Cx) (m:RetP) (st:Stmt) (g:St):Prop where
 h:PS X st (tS X.K m g)
section
variable {X:Cx} {m:RetP} {m1 m2:Md} {st:Stmt} {rest:List Stmt} {g g2:St} {e a b:Expr} {f fa fb:Ex} {t:Tx} {pos pos':Pos}
theorem ps_nil:PSd X m [] sSkip:=PSd.mk <| PSs.of L2.pss_nil fun D0 σ H ⟨BF,BH,F,env,L,o,env',S,e,k⟩=>by
 cases e;exact k F H σ L S (.refl _)
theorem pss_last (h:PS1 X m st g):PSd X m [st] g:=⟨L2.pss_one h.h⟩
theorem pss_more (h1:PS1 X m st g) (h2:PSd X m rest g2):PSd X m (st::rest) (sSeq g g2):=PSd.mk <| PSs.of (L2.pss_cons h1.h h2.h) fun D0 σ H ⟨BF,BH,F,env,L,o,env',S,e,k⟩=>by
 unfold sSeq at e
 split at e
 ·rename_i env1 h1
  exact ⟨BF,BH,F,env,L,.nx,env1,S,h1,fun F' H' σ' L' S' s'=>⟨BF,BH,F',env1,L',o,env',S',e,fun F2 H2 σ2 L2 S2 s2=>k F2 H2 σ2 L2 S2 (s'.trans s2)⟩⟩
 ·rename_i r hne
  cases hr:g env with
  | none=>rw [hr] at e;cases e
  | some p =>
   obtain ⟨o1,e1⟩:=p
   rw [hr] at e
   cases e
   refine ⟨BF,BH,F,env,L,o,env',S,hr,fun F' H' σ' L' S' s'=>?_⟩
   have kk:=k F' H' σ' L' S' s'
   cases o with
   | nx=>exact absurd hr (hne _)
   | bk=>exact kk
   | ct=>exact kk
   | rt d=>exact kk
theorem frz_dict {pins:List (Addr × Obj)} {σ:L2.St} {H:Hp} {s:Shared} {a:Addr} {kvs:List (L2.Key × V)} (I:Inv X pins σ H s) (h:H a=some (.dK kvs)):∃ o,Inv X pins σ (upd H a (.frz o (.dK kvs))) s:=by
 have ok:=I.hok a _ h
 obtain ⟨z,y,vs,r,ob,es,ep,e,c⟩:=ok
 refine ⟨ob,?_⟩
 have hne:∀ b o,H b=some o→(∀ kv,o≠.dK kv)→upd H a (.frz ob (.dK kvs)) b=some o:=fun b o hb hn=>by
  have:b≠a:=fun q=>by subst q;rw [h] at hb;cases hb;exact hn _ rfl
  rw [upd_ne this];exact hb
 have res:=I.un (t':=s.toks) (h':=s.heap) (H':=upd H a (.frz ob (.dK kvs))) ⟨fun b o q _ _ _=>q,fun b o q _ _ _=>⟨o.slots,q⟩,fun b o q n _=>by
  have:b≠a:=fun q=>by subst q;rw [h] at n;cases n
  rw [upd_ne this];exact n,fun b o q _=>⟨o,q⟩,fun b xs q=>hne b _ q (fun _ z=>by cases z),fun b o u q=>hne b _ q (fun _ z=>by cases z),fun b ps q=>⟨#[],by rw [hne b _ q (fun _ z=>by cases z)];simp⟩⟩ fun b u q=>by
   by_cases hb:b=a
   ·subst hb
    rw [upd_same] at q
    cases q
    refine ⟨e,?_⟩
    exact L2.ObjOk.stay (I.hok b _ h) (fun _ _ _ q=>q) (fun c q=>hne c _ q (fun _ z=>by cases z)) fun c xs q=>hne c _ q (fun _ z=>by cases z)
   ·rw [upd_ne hb] at q
    exact L2.ObjOk.stay (I.hok b _ q) (fun _ _ _ q=>q) (fun c q=>hne c _ q (fun _ z=>by cases z)) fun c xs q=>hne c _ q (fun _ z=>by cases z)
 exact res
theorem pss_ghost (i:Nat) {sts:List Stmt} (h2:PSd X m sts g2):PSd X m sts (sSeq (sFrz i) g2):=PSd.mk fun pins s0 σ H D0 I ⟨BF,BH,F,env,L,o,env',S,e,k⟩=>by
 unfold sSeq sFrz at e
 cases he:env[i]? with
 | none=>rw [he] at e;cases e
 | some s =>
  rw [he] at e
  cases s with
  | un=>cases e
  | dc kvs =>
   obtain ⟨ov,hσ,hso⟩:=S.sl i _ he
   obtain ⟨p,rfl,hl,h3⟩:=hso
   obtain ⟨ob,I'⟩:=frz_dict I h3
   have S1:=S.own (i:=i) (a:=p) (by rw [hl];simp) (HO.frz ob (.dK (kvV kvs))) (s':=.un) fun s ov e1 e2 e3=>trivial
   have hlt:i < env.length:=(List.getElem?_eq_some_iff.mp he).1
   have S2:=S1.frz i (s:=.un) (s':=.sh (.dct kvs)) (List.getElem?_set_self hlt) fun ov h1 h ff=>by
    rw [hσ] at h1;cases h1
    refine ⟨_,rfl,?_⟩
    simp only [Rep]
    exact ⟨p,ob,rfl,by rw [frz_in (by rw [hl];simp)];exact upd_same⟩
   rw [List.set_set] at S2
   exact h2.h pins s0 σ _ D0 I' ⟨BF,BH,_,_,_,o,env',S2,e,fun F2 H2 σ2 L2 S2' s2=>k F2 H2 σ2 L2 S2' ((S1.frzSame i).trans s2)⟩
  | jk _=>cases e
  | jl _=>cases e
  | nw ds =>
   have S':=S.frz i (s':=.fr (.lst ds)) he fun ov _ h ff=>by
    obtain ⟨p,vs,rfl,hl,h3,r⟩:=h
    refine ⟨_,rfl,?_⟩
    simp only [RepN]
    refine ⟨p,vs,rfl,?_,RepsN.mono (cut_mono ff) _ _ r⟩
    rw [cut_get ((S.ow i p (by rw [hl];simp)).2.1),frz_in (by rw [hl];simp)];exact h3
   exact h2.h pins s0 σ H D0 I ⟨BF,BH,_,_,_,o,env',S',e,fun F2 H2 σ2 L2 S2 s2=>k F2 H2 σ2 L2 S2 ((S.frzSame i).trans s2)⟩
  | sh d=>exact h2.h pins s0 σ H D0 I ⟨BF,BH,F,env,L,o,env',S,e,k⟩
  | fr d=>exact h2.h pins s0 σ H D0 I ⟨BF,BH,F,env,L,o,env',S,e,k⟩
  | ow ds =>
   have S':=S.frz i (s':=.sh (.lst ds)) he fun ov _ h ff=>by
    obtain ⟨p,vs,rfl,hl,h3,r⟩:=h
    refine ⟨_,rfl,?_⟩
    simp only [Rep]
    exact ⟨p,vs,rfl,.inl (.inl (by rw [frz_in (by rw [hl];simp)];exact h3)),Reps.mono ff _ _ r⟩
   exact h2.h pins s0 σ H D0 I ⟨BF,BH,_,_,_,o,env',S',e,fun F2 H2 σ2 L2 S2 s2=>k F2 H2 σ2 L2 S2 ((S.frzSame i).trans s2)⟩
  | tab rs =>
   have S':=S.frz i (s':=.sh (.lst (rs.map .lst))) he fun ov _ h ff=>by
    obtain ⟨p,as,rfl,hl,nd,h3,r⟩:=h
    refine ⟨_,rfl,?_⟩
    simp only [Rep]
    refine ⟨p,_,rfl,.inl (.inl (by rw [frz_in (by rw [hl];simp)];exact h3)),?_⟩
    have r':RowsOk X.K (frzH F H (L i)) (frzH F H (L i)) rs as:=r.mono ff fun b hb o z=>by rw [frz_in (by rw [hl];exact List.mem_cons_of_mem _ hb)];exact z
    exact r'.reps (.refl _)
   exact h2.h pins s0 σ H D0 I ⟨BF,BH,_,_,_,o,env',S',e,fun F2 H2 σ2 L2 S2 s2=>k F2 H2 σ2 L2 S2 ((S.frzSame i).trans s2)⟩
theorem ps_nev:PS1 X m st sNever:=PS1.mk <| PS.of L2.ps_never fun D0 σ H ⟨BF,BH,F,env,L,o,env',S,e,k⟩=>by cases e
theorem ps_do (ha:PD X m1 e f) (hs:swapsWith e none pos.line X.env=pure false:=by rfl):PS1 X m (.Expr e pos) (sDo f):=PS1.mk <| PS.of (L2.ps_expr ha.h hs) fun D0 σ H ⟨BF,BH,F,env,L,o,env',S,e,k⟩=>by
 unfold sDo at e
 split at e
 ·rename_i d h1
  cases e
  exact ⟨BF,BH,F,env,L,d,S,h1,fun v F' H' z r=>k F' H' σ L (S.ext z) z.ff⟩
 ·cases e
theorem ps_rete (ha:PD X m1 e f):PS1 X (rk X.K m1) (.Return (some e) pos) (sRet f):=PS1.mk <| PS.of (L2.ps_ret ha.h) fun D0 σ H ⟨BF,BH,F,env,L,o,env',S,e,k⟩=>by
 unfold sRet at e
 split at e
 ·rename_i d h1
  cases e
  exact ⟨BF,BH,F,env,L,d,S,h1,fun v F' H' z r=>k F' H' σ L (S.ext z) z.ff v r⟩
 ·cases e
theorem ps_iff {A B:List Stmt} (hc:PTd X e t) (ha:PSd X m A g) (hb:PSd X m B g2):PS1 X m (.If e A B pos) (sIf t g g2):=PS1.mk <| PS.of (L2.ps_if hc ha.h hb.h) fun D0 σ H ⟨BF,BH,F,env,L,o,env',S,e,k⟩=>by
 unfold sIf at e
 split at e
 ·rename_i h1
  exact ⟨BF,BH,F,env,L,true,S,h1,fun F' H' z=>L2.iteT ⟨BF,BH,F',env,L,o,env',S.ext z,e,fun F2 H2 σ2 L2 S2 s2=>k F2 H2 σ2 L2 S2 (z.ff.trans s2)⟩⟩
 ·rename_i h1
  exact ⟨BF,BH,F,env,L,false,S,h1,fun F' H' z=>L2.iteF ⟨BF,BH,F',env,L,o,env',S.ext z,e,fun F2 H2 σ2 L2 S2 s2=>k F2 H2 σ2 L2 S2 (z.ff.trans s2)⟩⟩
 ·cases e
theorem ps_sets (nd:X.N.Nodup) (i:Nat) {x:Str} (ha:PD X .k e f) (hi:X.N[i]?=some x:=by kernel_rfl) (hx:locB X.env.scope x=true:=by kernel_rfl) (hs:swapsWith e (some (.Name x pos')) pos.line X.env=pure false:=by rfl)
  (hf:fnB X x=true:=by kernel_rfl):PS1 X m (.Assign [.Name x pos'] e pos) (sSet i f) :=
 PS1.mk <| PS.of (L2.ps_set nd hi (locB_ok hx) ha.h hs (fnB_ok hf)) fun D0 σ H ⟨BF,BH,F,env,L,o,env',S,e,k⟩=>by
  unfold sSet at e
  split at e
  ·rename_i d h1
   cases e
   exact ⟨BF,BH,F,env,L,d,S,h1,fun v F' H' z r=>k F' H' _ _ ((S.ext z).setSh i r) z.ff⟩
  ·cases e
theorem own_set {K:PySem.W.Frag} {BF BH F F' H H':Hp} {σ:L2.St} {env:Env} {L:Nat→List Addr} (S:SOk K BF BH F H σ env L) (z:Ext F H F' H') (i:Nat) {p:Addr} {vs:List V} {ds:List D} (h0:H p=none) (h1:H' p=some (.lst vs)) (h2:F' p=none) (r:Reps K F' ds vs) :
  SOk K BF BH F' H' (σ.set i (some (.ref p))) (env.set i (.ow ds)) (putL L i [p]) :=
 (S.ext z).set i ⟨p,vs,rfl,rfl,h1,r⟩ (fun a h=>by
  rw [List.mem_singleton] at h;subst h
  exact ⟨h2,S.s0.free h0,by rw [h1];simp⟩) (fun a h j hj hm=>by
  rw [List.mem_singleton] at h;subst h
  exact (S.ow j a hm).2.2 h0)
theorem ps_own (nd:X.N.Nodup) (i:Nat) {x:Str} (ha:PDo X .k e f) (hi:X.N[i]?=some x:=by kernel_rfl) (hx:locB X.env.scope x=true:=by kernel_rfl) (hs:swapsWith e (some (.Name x pos')) pos.line X.env=pure false:=by rfl)
  (hf:fnB X x=true:=by kernel_rfl):PS1 X m (.Assign [.Name x pos'] e pos) (sOwn i f) :=
 PS1.mk <| PS.of (L2.ps_set nd hi (locB_ok hx) ha hs (fnB_ok hf)) fun D0 σ H ⟨BF,BH,F,env,L,o,env',S,e,k⟩=>by
  unfold sOwn at e
  split at e
  ·rename_i ds h1
   cases e
   exact ⟨BF,BH,F,env,L,ds,S,h1,fun p vs F' H' z h0 h2 h3 r=>k F' H' _ _ (own_set S z i h0 h2 h3 r) z.ff⟩
  ·cases e
theorem tyV_ow {K:PySem.W.Frag} {H:Hp} {p:Addr} {vs:List V} (h:H p=some (.lst vs)):L2.tyV K "list" (.ref p) H:=.inl ⟨rfl,vs,.inl (.inl h)⟩
theorem sl_ow {K:PySem.W.Frag} {BF BH F H:Hp} {σ:L2.St} {env:Env} {L:Nat→List Addr} (S:SOk K BF BH F H σ env L) {i:Nat} {ds:List D} (h:env[i]?=some (.ow ds)):∃ p vs,σ[i]?=some (some (.ref p))∧L i=[p]∧H p=some (.lst vs)∧Reps K F ds vs:=by
 obtain ⟨ov,h1,h2⟩:=S.sl i _ h
 obtain ⟨p,vs,rfl,h3,h4,h5⟩:=h2
 exact ⟨p,vs,h1,h3,h4,h5⟩
theorem ow_upd {K:PySem.W.Frag} {BF BH F H:Hp} {σ:L2.St} {env:Env} {L:Nat→List Addr} (S:SOk K BF BH F H σ env L) {i:Nat} {ds ds':List D} {p:Addr} {vs':List V} (he:env[i]?=some (.ow ds)) (hl:L i=[p]) (hσ:σ[i]?=some (some (.ref p))) (r:Reps K F ds' vs') :
  SOk K BF BH F (upd H p (.lst vs')) σ (env.set i (.ow ds')) L :=
 S.own (i:=i) (a:=p) (by rw [hl];simp) _ fun s ov h1 h2 h3=>by
  rw [hσ] at h2;cases h2
  exact ⟨p,vs',rfl,hl,upd_same,r⟩
theorem ps_app (i:Nat) {x:Str} {p1 p2 p3 p4:Pos} (ha:PD X .k e f) (hN:X.N[i]?=some x:=by kernel_rfl) (hv:visB X.env.scope x=true:=by kernel_rfl) (hd:(x == ("__debug__":Str))=false:=by kernel_rfl)
  (hcd:(x == ("__classdict__":Str))=false:=by kernel_rfl) (hst:nst e=true:=by rfl)
  (hbase:attributeBase (.Name x p1) "append" X.env (eval (.Name x p1) X.env)=eval (.Name x p1) X.env:=by rfl)
  (hline:(p2.endLine == p3.line)=true:=by rfl)
  (hsw:swapsWith (.Call (.Attribute (.Name x p1) "append" p2) [e] [] p3) none p4.line X.env=pure false:=by rfl) :
  PS1 X m (.Expr (.Call (.Attribute (.Name x p1) "append" p2) [e] [] p3) p4) (sApp i f) :=
 PS1.mk <| PS.of (L2.ps_expr (L2.pe_bm PySem.F.plainAttrs_list PySem.F.slot_list_append PySem.F.type_list_append L2.mt_append (L2.pe_var hN (visB_ok hv) hd hcd) (L2.pa_cons ha.h L2.pa_nil (star_one hst)) hbase (by rw [star_few (nsts_one hst)];rfl) hline (star_cons hst) rfl) hsw) fun D0 σ H ⟨BF,BH,F,env,L,o,env',S,e,k⟩=>by
  unfold sApp at e
  split at e
  ·rename_i ds d he h1
   split at e
   ·rename_i hlen
    cases e
    obtain ⟨p,vs,hσ,hl,hp,r⟩:=sl_ow S he
    refine ⟨_,hσ,tyV_ow hp,BF,BH,F,env,L,d,S,h1,fun v F' H' z rv=>?_⟩
    have S':=S.ext z
    have r':Reps X.K F' (ds++[d]) (vs++[v]):=(Reps.mono z.ff _ _ r).append (Reps.cons rv Reps.nil)
    refine ⟨p,vs,v,rfl,rfl,z.hh _ _ hp,by rw [← r.length];exact Nat.lt_of_lt_of_le hlen lim_le,?_⟩
    exact k F' _ σ L (ow_upd S' he hl hσ r') z.ff
   ·cases e
  ·cases e
theorem ins_eq (its:List Value) (k:Nat) (u:Value) (h:k≤its.length):(its.toArray.extract 0 k).push u++its.toArray.extract k=(its.insertIdx k u).toArray:=by
 have e:its.insertIdx k u=its.take k++u::its.drop k:=by
  induction its generalizing k with
  | nil=>simp at h;subst h;simp
  | cons a t ih =>
   cases k with
   | zero=>simp
   | succ k=>simp at h;simp [ih k h]
 rw [e]
 simp
 rw [List.take_of_length_le (by rw [List.length_drop];exact Nat.le_refl _)]
theorem mt_insertD:L2.MtM X "list.insert" (fun x vs H Q=>∃ (l:Addr) (xs:List V) (k:Int) (y:V),x=.ref l∧vs=[.int k,y]∧H l=some (.lst xs)∧0≤k∧k≤xs.length∧xs.length < lim∧Q .non (upd H l (.lst (xs.insertIdx k.toNat y)))):=by
 intro pins s σ H x vs v us Q I rx rv h
 obtain ⟨l,xs,k,y,rfl,rfl,hH,hk0,hk,hz,q⟩:=h
 cases rx
 obtain ⟨u,w,rfl,ru,rw'⟩:=rv.two
 obtain ⟨t,rfl⟩:=ru
 obtain ⟨z,its,n,r,hl,e⟩:=I.lstM hH
 have hlim:lim=100000:=rfl
 have hz2:its.toArray.size≤sizeLine:=by rw [List.size_toArray,sizeLine_eq];omega
 have hfit:Builtin.List.listFitsIndex k=true:=by
  unfold Builtin.List.listFitsIndex
  rw [Bool.and_eq_true]
  exact ⟨decide_eq_true (Int.le_trans (by decide) hk0),decide_eq_true (Int.lt_of_lt_of_le (show k < 9223372036854775808 by omega) (by decide))⟩
 have hfit':¬ (!Builtin.List.listFitsIndex k)=true:=by rw [hfit];decide
 refine call_meets PySem.F.slot_list_insert ⟨_,e,rfl⟩ PySem.F.entry_list_insert (PySem.F.args_list_insert_3 _ _ _)
  (AutoSeq1.list_insert_list_int_val_1 l its.toArray n k t w hfit' hz2) ⟨e,?_⟩
 refine ⟨.non,_,I.lset (its':=its.insertIdx k.toNat w) hH e ?_ ?_ ?_,rfl,q⟩
 ·have hn:¬ (k < 0):=by omega
  have hm:min k.toNat its.toArray.size=k.toNat:=by rw [List.size_toArray];omega
  have hif:(if k < 0 then (k + ((its.toArray.size:Nat):Int)).toNat else min k.toNat its.toArray.size)=k.toNat:=by rw [if_neg hn,hm]
  dsimp only
  rw [hif]
  exact ins_eq its k.toNat w (by omega)
 ·clear e hz hz2 hfit hfit' hk hk0 q hH
  have go:∀ (k:Nat) (xs:List V) (its:List Value),Vals xs its→Vals (xs.insertIdx k y) (its.insertIdx k w):=by
   intro k
   induction k with
   | zero=>intro xs its r;simp only [List.insertIdx_zero];exact .cons rw' r
   | succ k ih =>
    intro xs its r
    cases r with
    | nil=>simp only [List.insertIdx_succ_nil];exact .nil
    | cons r1 r2=>simp only [List.insertIdx_succ_cons];exact .cons r1 (ih _ _ r2)
  exact go k.toNat xs its r
 ·have:(xs.insertIdx k.toNat y).length≤xs.length + 1:=List.length_insertIdx_le_succ
  rw [sizeLine_eq];omega
theorem ps_ins (i:Nat) {x:Str} {p1 p2 p3 p4:Pos} (hq:PD X m1 a fa) (ha:PD X .k e f) (hN:X.N[i]?=some x:=by kernel_rfl) (hv:visB X.env.scope x=true:=by kernel_rfl) (hd:(x == ("__debug__":Str))=false:=by kernel_rfl)
  (hcd:(x == ("__classdict__":Str))=false:=by kernel_rfl) (hst:nst a=true:=by rfl) (hst2:nst e=true:=by rfl)
  (hbase:attributeBase (.Name x p1) "insert" X.env (eval (.Name x p1) X.env)=eval (.Name x p1) X.env:=by rfl)
  (hline:(p2.endLine == p3.line)=true:=by rfl)
  (hsw:swapsWith (.Call (.Attribute (.Name x p1) "insert" p2) [a,e] [] p3) none p4.line X.env=pure false:=by rfl) :
  PS1 X m (.Expr (.Call (.Attribute (.Name x p1) "insert" p2) [a,e] [] p3) p4) (sIns i fa f) :=
 PS1.mk <| PS.of (L2.ps_expr (L2.pe_bm PySem.F.plainAttrs_list PySem.F.slot_list_insert PySem.F.type_list_insert mt_insertD (L2.pe_var hN (visB_ok hv) hd hcd) (L2.pa_cons hq.h (L2.pa_cons ha.h L2.pa_nil (star_one hst2)) (star_cons hst)) hbase (by rw [star_few (nsts_two hst hst2)];rfl) hline (star_cons hst) (star_any (nsts_one hst2))) hsw) fun D0 σ H ⟨BF,BH,F,env,L,o,env',S,e,k⟩=>by
  unfold sIns at e
  split at e
  ·rename_i ds j d he h1 h2
   split at e
   ·rename_i hlen
    cases e
    obtain ⟨p,vs,hσ,hl,hp,r⟩:=sl_ow S he
    refine ⟨_,hσ,tyV_ow hp,BF,BH,F,env,L,_,S,h1,fun v F1 H1 z1 r1=>⟨BF,BH,F1,env,L,d,S.ext z1,h2,fun w F' H' z2 rv=>?_⟩⟩
    have z:=z1.trans z2
    have S':=S.ext z
    obtain rfl:=rep_int r1
    have r':Reps X.K F' (ds.insertIdx j.toNat d) (vs.insertIdx j.toNat w):=(Reps.mono z.ff _ _ r).insertIdx rv j.toNat
    refine ⟨p,vs,j,w,rfl,rfl,z.hh _ _ hp,hlen.1,by rw [← r.length];exact hlen.2.1,by rw [← r.length];exact hlen.2.2,?_⟩
    exact k F' _ σ L (ow_upd S' he hl hσ r') z.ff
   ·cases e
  ·cases e
end
end PV
set_option linter.all false
set_option Elab.async false
set_option maxRecDepth 100000
set_option maxHeartbeats 4000000
namespace PV
open PySem PySem.Spec PyProof.Rows
open L2 (V Hp HO Vals SqL SqT Same upd Cx PE PT PW PA PS PSs TE TT TA TS Inv RelV upd_same upd_ne ne_of_none)
section
variable {X:Cx} {m:RetP} {m1 m2 m3:Md} {st:Stmt} {rest:List Stmt} {g g2 b:St} {e a c:Expr} {f fa fb fc:Ex} {t:Tx} {pos pos' p1 p2 p3:Pos}
theorem RowsOk.set {K:PySem.W.Frag} {F H:Hp}:∀ {rs:List (List D)} {as:List Addr} {j:Nat} {r:List D} {a:Addr} {vs':List V},as.Nodup→RowsOk K F H rs as→as[j]?=some a→Reps K F r vs'→RowsOk K F (upd H a (.lst vs')) (rs.set j r) as
 | [],as,j,r,a,vs',_,h,e,_=>by have z:as=[]:=h;subst z;simp at e
 | r0::rs,as,0,r,a,vs',nd,h,e,h'=>by
  obtain ⟨b,t,vs,rfl,h1,h2,h3⟩:=h
  have e':b=a:=by simpa using e
  subst e'
  obtain ⟨n1,n2⟩:=List.nodup_cons.mp nd
  exact ⟨b,t,vs',rfl,upd_same,h',h3.mono (.refl _) fun c hc o z=>by rw [upd_ne (fun q=>n1 (by rw [← q];exact hc))];exact z⟩
 | r0::rs,as,j + 1,r,a,vs',nd,h,e,h'=>by
  obtain ⟨b,t,vs,rfl,h1,h2,h3⟩:=h
  obtain ⟨n1,n2⟩:=List.nodup_cons.mp nd
  have e':t[j]?=some a:=by simpa using e
  exact ⟨b,t,vs,rfl,by rw [upd_ne (fun q=>n1 (by rw [q];exact List.mem_of_getElem? e'))];exact h1,h2,RowsOk.set n2 h3 e' h'⟩
theorem ps_put2 (i:Nat) {x:Str} (hq:PD X m1 a fa) (hc:PD X m2 c fc) (ha:PD X .k e f) (hN:X.N[i]?=some x:=by kernel_rfl) (hv:visB X.env.scope x=true:=by kernel_rfl) (hd:(x == ("__debug__":Str))=false:=by kernel_rfl)
  (hcd:(x == ("__classdict__":Str))=false:=by kernel_rfl) (hix:L2.PlainIx a:=by exact fun _ _=>rfl)
  (has:∀ v,assign (.Subscript (.Subscript (.Name x p1) a p2) c p3) X.env v=(do
   let ov ← holding [v] (eval (.Subscript (.Name x p1) a p2) X.env)
   let iv ← holding [v,ov] (eval c X.env)
   standAt p3
   holding [v,ov,iv] (setItem ov iv v)
   release [v,ov,iv] []):=by intro _;rfl)
  (hs:swapsWithSole [.Subscript (.Subscript (.Name x p1) a p2) c p3] e pos.line X.env=pure false:=by rfl) (hw:swappedStores [.Subscript (.Subscript (.Name x p1) a p2) c p3] e X.env=pure none:=by rfl)
  (h1:(assignEach [.Subscript (.Subscript (.Name x p1) a p2) c p3] X.env).map (·.2)=[assign (.Subscript (.Subscript (.Name x p1) a p2) c p3) X.env]:=by rfl) :
  PS1 X m (.Assign [.Subscript (.Subscript (.Name x p1) a p2) c p3] e pos) (sPut2 i fa fc f) :=
 PS1.mk <| PS.of (L2.ps_asg ha.h (L2.pg_sub (L2.pe_ix L2.ix_list (L2.pe_var hN (visB_ok hv) hd hcd) hq.h hix) hc.h L2.set_list has) hs hw h1) fun D0 σ H ⟨BF,BH,F,env,L,o,env',S,e,k⟩=>by
  unfold sPut2 at e
  split at e
  ·rename_i rs d kk ll he h2 h3 h4
   split at e
   ·rename_i j hj
    split at e
    ·rename_i r hr
     split at e
     ·rename_i mm hm
      cases e
      obtain ⟨ov,hσ,hso⟩:=S.sl i _ he
      obtain ⟨p,as,rfl,hl,nd,hp,hrows⟩:=hso
      refine ⟨BF,BH,F,env,L,d,S,h2,fun v F1 H1 z1 r1=>⟨_,hσ,BF,BH,F1,env,L,_,S.ext z1,h3,fun w F2 H2 z2 r2=>?_⟩⟩
      have z:=z1.trans z2
      have S2:=S.ext z
      obtain ⟨ra,vs,g1,g2,g3⟩:=hrows.get hr
      have hla:as.length=rs.length:=hrows.length.symm
      have hat:L2.atI (as.map V.ref) kk=some (.ref ra):=by
       unfold L2.atI
       rw [List.length_map,hla]
       show ((ixN rs.length kk).bind fun j=>(as.map V.ref)[j]?)=_
       rw [hj]
       show (as.map V.ref)[j]?=_
       rw [List.getElem?_map,g1];rfl
      refine ⟨p,as.map V.ref,kk,.ref ra,rfl,rep_int r2,.inl (.inl (z.hh _ _ hp)),hat,BF,BH,F2,env,L,_,S2,h4,fun w2 F3 H3 z3 r3=>?_⟩
      have z':=z.trans z3
      have S3:=S.ext z'
      have r1':=Rep.mono (z2.trans z3).ff _ _ r1
      have g3':=Reps.mono z'.ff _ _ g3
      refine ⟨ra,vs,ll,mm,rfl,rep_int r3,z'.hh _ _ g2,by rw [← g3.length];exact hm,?_⟩
      have hra:ra ∈ as:=List.mem_of_getElem? g1
      obtain ⟨n1,n2⟩:=List.nodup_cons.mp nd
      refine k F3 _ σ L (S3.own (i:=i) (a:=ra) (by rw [hl];exact List.mem_cons_of_mem _ hra) _ fun s ov e1 e2 e3=>?_) z'.ff
      rw [hσ] at e2;cases e2
      refine ⟨p,as,rfl,hl,nd,?_,?_⟩
      ·rw [upd_ne (fun q=>n1 (by rw [q];exact hra))];exact z'.hh _ _ hp
      ·have hrows':RowsOk X.K F3 H3 rs as:=hrows.mono z'.ff fun b _ o q=>z'.hh _ _ q
       exact hrows'.set n2 g1 (g3'.set r1' mm)
     ·cases e
    ·cases e
   ·cases e
  ·cases e
structure ItOk (K:PySem.W.Frag) (J:L2.It) (F:Hp) (ds:List D):Prop where
 stop:∀ H,Same F H→J.stop ds.length H
 go:∀ i H,Same F H→i < ds.length→J.go i H
 yld:∀ i H x H' F0,Same F F0→Same F0 H→i < ds.length→J.yld i H x H'→∃ d F2,ds[i]?=some d∧Ext F0 H F2 H'∧Rep K F2 d x
def tIt (K:PySem.W.Frag) (lx:Lx):L2.TI:=fun σ H R=>∃ BF BH F env L ds,SOk K BF BH F H σ env L∧lx env=some ds∧∀ J F' H',Ext F H F' H'→ItOk K J F' ds→R J H'
def PId (X:Cx) (tg iter:Expr) (lx:Lx):Prop:=L2.PI X tg iter (tIt X.K lx)
theorem PI.of {tg iter:Expr} {w w':L2.TI} (h:L2.PI X tg iter w') (i:∀ σ H R,w σ H R→w' σ H R):L2.PI X tg iter w:=fun pins s σ H R I q=>h pins s σ H R I (i σ H R q)
def iSeq (K:PySem.W.Frag) (tl:TE):L2.TI:=fun σ H R=>tl σ H fun x H1=>∃ p,x=.ref p∧(((∃ xs,SqL K H1 p xs)∧R (L2.Itl K p) H1)∨((∃ xs,SqT K H1 p xs)∧R (L2.Itt K p) H1))
theorem pi_seq {tg l:Expr} {tl:TE} (hl:PE X l tl):L2.PI X tg l (iSeq X.K tl):=by
 intro pins s σ H R I h
 refine L2.thn (hl pins s σ H _ I h) fun v s1 ⟨x,H1,I1,r1,q1⟩=>?_
 obtain ⟨p,e,q1⟩:=q1
 subst e
 cases r1
 rcases q1 with ⟨⟨xs,hq⟩,q⟩ | ⟨⟨xs,hq⟩,q⟩
 ·obtain ⟨its,rv,pl,hz⟩:=I1.list hq
  refine wpAny_pyIter_list pl.isList ?_
  refine ⟨s1.heap.objs.size,[s1.heap.objs.size],_,_,H1,rfl,I1.kept (t':=s1.toks) fun b o e=>Heap.get?_push_of_some _ e,L2.turn_list p _,⟨_,Heap.get?_push_size _ rfl,rfl,rfl⟩,fun b hb=>?_,q⟩
  have e:b=s1.heap.objs.size:=by simpa using hb
  subst e
  exact I1.fpOk (Nat.le_refl _) (I1.hok.fresh (Nat.le_refl _))
 ·obtain ⟨its,rv,pl,hz⟩:=I1.tuple hq
  refine wpAny_pyIter_tuple (show s1.heap.IsTuple p its.toArray from pl) ?_
  refine ⟨s1.heap.objs.size,[s1.heap.objs.size],_,_,H1,rfl,I1.kept (t':=s1.toks) fun b o e=>Heap.get?_push_of_some _ e,L2.turn_tuple p _,⟨_,Heap.get?_push_size _ rfl,rfl,rfl⟩,fun b hb=>?_,q⟩
  have e:b=s1.heap.objs.size:=by simpa using hb
  subst e
  exact I1.fpOk (Nat.le_refl _) (I1.hok.fresh (Nat.le_refl _))
theorem pi_of {tg:Expr} (ha:PD X .k a f):PId X tg a (iOf f):=PI.of (pi_seq ha.h) fun σ H R ⟨BF,BH,F,env,L,ds,S,e,q⟩=>by
 unfold iOf at e
 split at e
 ·rename_i xs h1
  cases e
  refine ⟨BF,BH,F,env,L,_,S,h1,fun v F' H' z r=>?_⟩
  simp only [Rep] at r
  obtain ⟨p,vs,rfl,hs,t⟩:=r
  refine ⟨p,rfl,.inl ⟨⟨vs,z.fh.seq hs⟩,q _ F' H' z ⟨fun H2 s2=>⟨vs,s2.seq hs,by rw [t.length];exact Nat.le_refl _⟩,fun i H2 s2 hi=>?_,fun i H2 x H3 F0 s1 s2 hi hy=>?_⟩⟩⟩
  ·exact ⟨vs,vs[i]'(by rw [← t.length];exact hi),s2.seq hs,by simp [← t.length,hi]⟩
  ·obtain ⟨rfl,hy⟩:=hy
   obtain ⟨d,k1,k2⟩:=t.getV (hy vs ((s1.trans s2).seq hs))
   exact ⟨d,F0,k1,.refl s2,Rep.mono s1 _ _ k2⟩
 ·rename_i xs h1
  cases e
  refine ⟨BF,BH,F,env,L,_,S,h1,fun v F' H' z r=>?_⟩
  simp only [Rep] at r
  obtain ⟨p,vs,rfl,hs,t⟩:=r
  refine ⟨p,rfl,.inr ⟨⟨vs,seqT z.fh hs⟩,q _ F' H' z ⟨fun H2 s2=>⟨vs,seqT s2 hs,by rw [t.length];exact Nat.le_refl _⟩,fun i H2 s2 hi=>?_,fun i H2 x H3 F0 s1 s2 hi hy=>?_⟩⟩⟩
  ·exact ⟨vs,vs[i]'(by rw [← t.length];exact hi),seqT s2 hs,by simp [← t.length,hi]⟩
  ·obtain ⟨rfl,hy⟩:=hy
   obtain ⟨d,k1,k2⟩:=t.getV (hy vs (seqT (s1.trans s2) hs))
   exact ⟨d,F0,k1,.refl s2,Rep.mono s1 _ _ k2⟩
 ·cases e
theorem it_range {K:PySem.W.Frag} {F:Hp} {lo:Int} {n:Nat}:ItOk K (L2.Itr lo n) F (rangeD lo n) where
 stop:=fun H _=>by show n≤(rangeD lo n).length;rw [rangeD_length];exact Nat.le_refl _
 go:=fun i H _ h=>by show i < n;rw [rangeD_length] at h;exact h
 yld:=fun i H x H' F0 _ s2 hi hy=>by
  obtain ⟨rfl,rfl⟩:=hy
  rw [rangeD_length] at hi
  exact ⟨_,F0,rangeD_get hi,.refl s2,by simp [Rep]⟩
theorem pi_rng {tg:Expr} (T:Bt X.mg) (ha:PD X m1 a f) (hg:X.env.kindOf "range"=some .globalImplicit:=by kernel_rfl) (hs:nst a=true:=by rfl):PId X tg (.Call (.Name "range" p1) [a] [] pos) (iRng f) :=
 PI.of (L2.pi_range1 hg T.range (L2.pa_cons ha.h L2.pa_nil (star_one hs)) (star_one hs)) fun σ H R ⟨BF,BH,F,env,L,ds,S,e,q⟩=>by
  unfold iRng at e
  split at e
  ·rename_i j h1
   split at e
   ·rename_i hj
    cases e
    refine ⟨BF,BH,F,env,L,_,S,h1,fun v F' H' z r=>?_⟩
    obtain rfl:=rep_int r
    have hl:(lim:Int)=100000:=rfl
    exact ⟨j,rfl,by omega,by omega,q _ F' H' z it_range⟩
   ·cases e
  ·cases e
def tTg (K:PySem.W.Frag) (g:Tg):L2.TG:=fun v σ H Q=>∃ BF BH F env L d env1,SOk K BF BH F H σ env L∧Rep K F d v∧g d env=some env1∧∀ F' H' σ' L',SOk K BF BH F' H' σ' env1 L'→Same F F'→Q σ' H'
def PGd (X:Cx) (tg:Expr) (g:Tg):Prop:=L2.PG X tg (tTg X.K g)
theorem pg_n (nd:X.N.Nodup) (i:Nat) {x:Str} (hi:X.N[i]?=some x:=by kernel_rfl) (hx:locB X.env.scope x=true:=by kernel_rfl) (hf:fnB X x=true:=by kernel_rfl):PGd X (.Name x pos) (gN i) :=
 fun pins s σ H v u Q I r ⟨BF,BH,F,env,L,d,env1,S,rd,e,k⟩=>L2.pg_name nd hi (locB_ok hx) (fnB_ok hf) pins s σ H v u Q I r (by
  cases e
  exact k F H _ _ (S.setSh i rd) (.refl _))
theorem ps_fore {tg iter:Expr} {lx:Lx} {tg':Tg} {body:List Stmt} (hi:PId X tg iter lx) (hg:PGd X tg tg') (hb:PSd X m body b) (hp:PassesOwn (model X.prog X.w) X.A X.env X.xe:=by exact PassesOwn.never) (hc:X.calm=true:=by rfl)
  (hs:∀ x,foldedSetIterable iter X.env x=pure x:=by intro _;rfl):PS1 X m (.For tg iter body [] pos) (sFor tg' lx b):=PS1.mk <| PS.of (L2.ps_for hp hc hi hg hb.h hs) fun D0 σ H ⟨BF,BH,F,env,L,o,env',S,e,k⟩=>by
 unfold sFor at e
 split at e
 ·rename_i ds h1
  refine ⟨BF,BH,F,env,L,ds,S,h1,fun J F1 H1 z1 J1=>?_⟩
  refine ⟨fun i mm σ H=>mm=ds.length - i∧i≤ds.length∧∃ F env L,SOk X.K BF BH F H σ env L∧Same F1 F∧forL tg' b (ds.drop i) env=some (o,env'),⟨ds.length,by simp,Nat.zero_le _,F1,env,L,S.ext z1,.refl _,e⟩,?_⟩
  rintro i mm σ H ⟨rfl,hi,F,env,L,S,s1,e⟩
  by_cases hlt:i < ds.length
  ·refine .inr ⟨J1.go i H (s1.trans S.fh) hlt,fun σ' H'=>∃ F env L,SOk X.K BF BH F H' σ' env L∧Same F1 F∧forL tg' b (ds.drop (i + 1)) env=some (o,env'),fun σ' H' ⟨F,env,L,q1,q2,q3⟩=>⟨ds.length - (i + 1),by omega,rfl,hlt,F,env,L,q1,q2,q3⟩,fun x H' hy=>?_⟩
   obtain ⟨d,F2,hd,z2,r2⟩:=J1.yld i H x H' F s1 S.fh hlt hy
   rw [List.drop_eq_getElem_cons hlt] at e
   have hd':ds[i]=d:=by rw [List.getElem?_eq_getElem hlt] at hd;exact Option.some.inj hd
   rw [hd'] at e
   simp only [forL] at e
   split at e
   ·rename_i env0 hg0
    refine ⟨BF,BH,F2,env,L,d,env0,S.ext z2,r2,hg0,fun F3 H3 σ3 L3 S3 s3=>?_⟩
    have s13:Same F1 F3:=(s1.trans z2.ff).trans s3
    split at e
    ·rename_i e1 hb1
     exact ⟨BF,BH,F3,env0,L3,.nx,e1,S3,hb1,fun F4 H4 σ4 L4 S4 s4=>⟨F4,e1,L4,S4,s13.trans s4,e⟩⟩
    ·rename_i e1 hb1
     exact ⟨BF,BH,F3,env0,L3,.ct,e1,S3,hb1,fun F4 H4 σ4 L4 S4 s4=>⟨F4,e1,L4,S4,s13.trans s4,e⟩⟩
    ·rename_i e1 hb1
     cases e
     exact ⟨BF,BH,F3,env0,L3,.bk,env',S3,hb1,fun F4 H4 σ4 L4 S4 s4=>k F4 H4 σ4 L4 S4 ((z1.ff.trans s13).trans s4)⟩
    ·rename_i r e1 hb1
     cases e
     exact ⟨BF,BH,F3,env0,L3,.rt r,env',S3,hb1,fun F4 H4 σ4 L4 S4 s4=>k F4 H4 σ4 L4 S4 ((z1.ff.trans s13).trans s4)⟩
    ·cases e
   ·cases e
  ·have ei:i=ds.length:=by omega
   subst ei
   rw [List.drop_length] at e
   cases e
   exact .inl ⟨J1.stop H (s1.trans S.fh),k F H σ L S (z1.ff.trans s1)⟩
 ·cases e
end
end PV
set_option linter.all false
set_option Elab.async false
set_option maxRecDepth 100000
set_option maxHeartbeats 4000000
namespace PV
open PySem PySem.Spec PyProof.Rows
open L2 (V Hp HO Vals SqL SqT Same upd Cx PE PT PW PA PS PSs TE TT TA TS Inv RelV upd_same upd_ne ne_of_none)
section
variable {X:Cx} {m:RetP} {m1 m2 m3:Md} {st:Stmt} {rest:List Stmt} {g g2 b:St} {e a c:Expr} {es:List Expr} {f fa fb fc:Ex} {fs:List Ex} {t:Tx} {pos pos' p p1 p2 p3:Pos}
theorem ps_whl {body:List Stmt} (n:Nat) (hc:PTd X e t) (hb:PSd X m body b) (hp:PassesOwn (model X.prog X.w) X.A X.env X.xe:=by exact PassesOwn.never):PS1 X m (.While e body [] pos) (whileN t b n):=PS1.mk <| PS.of (L2.ps_while hp hc hb.h) fun D0 σ H ⟨BF,BH,F,env,L,o,env',S,e,k⟩=>by
 refine ⟨fun mm σ H=>∃ F1 env L,SOk X.K BF BH F1 H σ env L∧Same F F1∧whileN t b mm env=some (o,env'),⟨n,F,env,L,S,.refl _,e⟩,?_⟩
 rintro mm σ H ⟨F1,env,L,S,s1,e⟩
 cases mm with
 | zero=>cases e
 | succ mm =>
  simp only [whileN] at e
  split at e
  ·rename_i h1
   refine ⟨BF,BH,F1,env,L,true,S,h1,fun F2 H2 z2=>L2.iteT ⟨fun σ' H'=>∃ F1 env L,SOk X.K BF BH F1 H' σ' env L∧Same F F1∧whileN t b mm env=some (o,env'),fun σ' H' q=>⟨mm,Nat.lt_succ_self _,q⟩,?_⟩⟩
   split at e
   ·rename_i e1 hb1
    exact ⟨BF,BH,F2,env,L,.nx,e1,S.ext z2,hb1,fun F4 H4 σ4 L4 S4 s4=>⟨F4,e1,L4,S4,(s1.trans z2.ff).trans s4,e⟩⟩
   ·rename_i e1 hb1
    exact ⟨BF,BH,F2,env,L,.ct,e1,S.ext z2,hb1,fun F4 H4 σ4 L4 S4 s4=>⟨F4,e1,L4,S4,(s1.trans z2.ff).trans s4,e⟩⟩
   ·rename_i e1 hb1
    cases e
    exact ⟨BF,BH,F2,env,L,.bk,env',S.ext z2,hb1,fun F4 H4 σ4 L4 S4 s4=>k F4 H4 σ4 L4 S4 ((s1.trans z2.ff).trans s4)⟩
   ·rename_i r e1 hb1
    cases e
    exact ⟨BF,BH,F2,env,L,.rt r,env',S.ext z2,hb1,fun F4 H4 σ4 L4 S4 s4=>k F4 H4 σ4 L4 S4 ((s1.trans z2.ff).trans s4)⟩
   ·cases e
  ·rename_i h1
   cases e
   exact ⟨BF,BH,F1,_,L,false,S,h1,fun F2 H2 z2=>L2.iteF (k F2 H2 σ L (S.ext z2) (s1.trans z2.ff))⟩
  ·cases e
def spR (K:PySem.W.Frag) (m:RetP) (φ:List D→Option D):L2.Sp:=fun vs H Q _=>∃ F ds d,Same F H∧Reps K F ds vs∧φ ds=some d∧∀ v F' H',Ext F H F' H'→m H F' H' d v→Q v H'
structure Cal (P:Program) (w:World) (K:PySem.W.Frag) (mg:Str→Option Value) (base:Heap) (k:Nat) (x:Str) (m:RetP) (φ:List D→Option D):Prop where
 ex:∃ (fa:Addr) (fd:FuncData) (ps:List Str),mg x=some (.ref fa)∧PySem.W.keepIn K (.ref fa)=true∧L2.FnOk P w K mg base L2.CX0 k fa fd ps (spR K m φ)∧L2.Binds K fd ps []
theorem Cal.mono {P:Program} {w:World} {K:PySem.W.Frag} {mg:Str→Option Value} {base:Heap} {j k:Nat} {x:Str} {m:RetP} {φ:List D→Option D} (h:Cal P w K mg base j x m φ) (hk:j≤k):Cal P w K mg base k x m φ:=by
 obtain ⟨fa,fd,ps,h1,h2,h3,h4⟩:=h.ex
 exact ⟨⟨fa,fd,ps,h1,h2,h3.mono hk,h4⟩⟩
theorem hpM_call {BH H F2 H2:Hp} (s:Same BH H):∀ m:Md,Same (hpM H F2 H2 m) (hpM BH F2 H2 m)
 | .r=>.refl _
 | .k=>.refl _
 | .f=>fun b o h=>by
  show cut F2 BH b=some o
  have h':cut F2 H b=some o:=h
  unfold cut at h' ⊢
  split at h'
  ·rename_i hn
   rw [s.free hn]
   exact h'
  ·cases h'
theorem pd_callR {k:Nat} {x:Str} {φ:List D→Option D} (G:Cal X.prog X.w X.K X.mg X.base k x m φ) (hr:L2.Room k X.A) (ha:PAd X .k (e::es) fs) (hg:L2.Gl X x) (hdb:(x == ("__debug__":Str))=false)
  (he:starEach (e::es) X.env=(false,eval e X.env)::starEach es X.env) (hpl:(backTo pos (starEach es X.env)).any (·.1)=false) :
  PE X (.Call (.Name x p) (e::es) [] pos) (fun σ H Q=>∃ BF BH F env L d,SOk X.K BF BH F H σ env L∧eCall φ fs env=some d∧∀ v F' H' H0,Same BH H0→Same H H0→Ext F H F' H'→m H0 F' H' d v→Q v H'):=by
 obtain ⟨fa,fd,ps,h1,h2,h3,h4⟩:=G.ex
 exact PE.of (L2.pe_call h3 hr hg h1 h2 h4 .nil L2.pass0 ha.h hdb he hpl) fun σ H Q ⟨BF,BH,F,env,L,d,S,e,q⟩=>by
  unfold eCall at e
  split at e
  ·rename_i ds h5
   refine ⟨BF,BH,F,env,L,ds,S,h5,fun vs F' H' z r=>?_⟩
   show spR X.K m φ (vs++[]) H' Q L2.E0
   rw [List.append_nil]
   exact ⟨F',ds,d,z.fh,r,e,fun v F2 H2 z2 r2=>q v F2 H2 H' (S.s0.trans z.hh) z.hh (z.trans z2) r2⟩
  ·cases e
theorem pd_call {k:Nat} {x:Str} {φ:List D→Option D} (G:Cal X.prog X.w X.K X.mg X.base k x (rk X.K m1) φ) (hr:L2.Room k X.A) (ha:PAd X .k (e::es) fs) (hg:X.env.kindOf x=some .globalImplicit:=by kernel_rfl) (hdb:(x == ("__debug__":Str))=false:=by kernel_rfl)
  (hn:nst e=true:=by rfl) (hns:nsts es=true:=by rfl):PD X m1 (.Call (.Name x p) (e::es) [] pos) (eCall φ fs) :=
 PD.mk <| PE.of (pd_callR G hr ha hg hdb (star_cons hn) (star_any hns)) fun σ H Q ⟨BF,BH,F,env,L,d,S,e,q⟩ =>
  ⟨BF,BH,F,env,L,d,S,e,fun v F' H' H0 s0 s1 z r=>q v F' H' z (Rep.mono (hpM_call s0 m1) _ _ r)⟩
theorem pd_call0 {k:Nat} {x:Str} {φ:List D→Option D} (G:Cal X.prog X.w X.K X.mg X.base k x (rk X.K m1) φ) (hr:L2.Room k X.A) (hg:X.env.kindOf x=some .globalImplicit:=by kernel_rfl) (hdb:(x == ("__debug__":Str))=false:=by kernel_rfl):PD X m1 (.Call (.Name x p) [] [] pos) (eCall φ []):=by
 obtain ⟨fa,fd,ps,h1,h2,h3,h4⟩:=G.ex
 exact PD.mk <| PE.of (L2.pe_call0 h3 hr hg h1 h2 h4 .nil L2.pass0 hdb) fun σ H Q ⟨BF,BH,F,env,L,d,S,e,q⟩=>by
  have e':φ []=some d:=e
  exact ⟨F,[],d,S.fh,Reps.nil,e',fun v F2 H2 z2 r2=>q v F2 H2 z2 (Rep.mono (hpM_call S.s0 m1) _ _ r2)⟩
def tT (K:PySem.W.Frag) (f:Ex):TE:=fun σ H Q=>∃ BF BH F env L d,SOk K BF BH F H σ env L∧f env=some d∧∀ v F' H',Ext F H F' H'→rT K H F' H' d v→Q v H'
def PDt (X:Cx) (e:Expr) (f:Ex):Prop:=PE X e (tT X.K f)
theorem rT_mono {K:PySem.W.Frag} {A B F' H':Hp} {d:D} {v:V} (s:Same A B) (h:rT K B F' H' d v):rT K A F' H' d v:=by
 obtain ⟨a,as,rs,h1,h2,h3,h4,h5,h6⟩:=h
 exact ⟨a,as,rs,h1,h2,h3,h4,h5,fun b hb=>⟨s.free (h6 b hb).1,(h6 b hb).2⟩⟩
theorem pt_callT {k:Nat} {x:Str} {φ:List D→Option D} (G:Cal X.prog X.w X.K X.mg X.base k x (rT X.K) φ) (hr:L2.Room k X.A) (ha:PAd X .k (e::es) fs) (hg:X.env.kindOf x=some .globalImplicit:=by kernel_rfl) (hdb:(x == ("__debug__":Str))=false:=by kernel_rfl)
  (hn:nst e=true:=by rfl) (hns:nsts es=true:=by rfl):PDt X (.Call (.Name x p) (e::es) [] pos) (eCall φ fs) :=
 PE.of (pd_callR G hr ha hg hdb (star_cons hn) (star_any hns)) fun σ H Q ⟨BF,BH,F,env,L,d,S,e,q⟩ =>
  ⟨BF,BH,F,env,L,d,S,e,fun v F' H' H0 s0 s1 z r=>q v F' H' z (rT_mono s1 r)⟩
theorem PDt.k (h:PDt X e f):PD X .k e f:=PD.mk <| PE.of h fun σ H Q ⟨BF,BH,F,env,L,d,S,e,q⟩=>by
 refine ⟨BF,BH,F,env,L,d,S,e,fun v F' H' z r=>?_⟩
 obtain ⟨a,as,rs,rfl,rfl,h3,h4,h5,h6⟩:=r
 have ff:Same F' (frzH F' H' (a::as)):=fun b o hb=>by
  by_cases hm:b ∈ a::as
  ·rw [(h6 b hm).2] at hb;cases hb
  ·rw [frz_out hm];exact hb
 have z':Ext F H (frzH F' H' (a::as)) H':=⟨z.hh,z.ff.trans ff,fun b o hb=>by
  by_cases hm:b ∈ a::as
  ·exact .inr (h6 b hm).1
  ·rw [frz_out hm] at hb;exact z.dm b o hb,fun b o hb=>by
  by_cases hm:b ∈ a::as
  ·rw [frz_in hm] at hb;exact hb
  ·rw [frz_out hm] at hb;exact z.fh b o hb⟩
 refine q _ _ H' z' ?_
 simp only [Rep,hpM]
 refine ⟨a,_,rfl,.inl (.inl (by rw [frz_in List.mem_cons_self];exact h3)),?_⟩
 have r':RowsOk X.K (frzH F' H' (a::as)) (frzH F' H' (a::as)) rs as:=h4.mono ff fun b hb o z=>by rw [frz_in (List.mem_cons_of_mem _ hb)];exact z
 exact r'.reps (.refl _)
theorem rows_lst:∀ rs:List (List D),rows? (rs.map .lst)=some rs
 | []=>rfl
 | r::rs=>by simp only [List.map_cons,rows?,rows_lst rs]
theorem tab_set {K:PySem.W.Frag} {BF BH F F' H H':Hp} {σ:L2.St} {env:Env} {L:Nat→List Addr} (S:SOk K BF BH F H σ env L) (z:Ext F H F' H') (i:Nat) {a:Addr} {as:List Addr} {rs:List (List D)} (h3:H' a=some (.lst (as.map .ref))) (h4:RowsOk K F' H' rs as) (h5:(a::as).Nodup)
  (h6:∀ b ∈ a::as,H b=none∧F' b=none):SOk K BF BH F' H' (σ.set i (some (.ref a))) (env.set i (.tab rs)) (putL L i (a::as)):=by
 have rowsIn:∀ {rs:List (List D)} {as:List Addr},RowsOk K F' H' rs as→∀ b ∈ as,H' b≠none:=by
  intro rs
  induction rs with
  | nil=>intro as h b hb;have e:as=[]:=h;subst e;cases hb
  | cons r rs ih =>
   intro as h b hb
   obtain ⟨c,t,vs,rfl,h1,_,h3⟩:=h
   rcases List.mem_cons.mp hb with rfl | hb
   ·rw [h1];simp
   ·exact ih h3 b hb
 refine (S.ext z).set i ⟨a,as,rfl,rfl,h5,h3,h4⟩ (fun b hb=>⟨(h6 b hb).2,S.s0.free (h6 b hb).1,?_⟩) (fun b hb j hj hm=>(S.ow j b hm).2.2 (h6 b hb).1)
 rcases List.mem_cons.mp hb with rfl | hb
 ·rw [h3];simp
 ·exact rowsIn h4 b hb
theorem ps_retT (i:Nat) {x:Str} (hN:X.N[i]?=some x:=by kernel_rfl) (hv:visB X.env.scope x=true:=by kernel_rfl) (hd:(x == ("__debug__":Str))=false:=by kernel_rfl)
  (hcd:(x == ("__classdict__":Str))=false:=by kernel_rfl):PS1 X (rT X.K) (.Return (some (.Name x p1)) pos) (sRetT i) :=
 PS1.mk <| PS.of (L2.ps_ret (L2.pe_var hN (visB_ok hv) hd hcd)) fun D0 σ H ⟨BF,BH,F,env,L,o,env',S,e,k⟩=>by
  unfold sRetT at e
  split at e
  ·rename_i rs he
   cases e
   obtain ⟨ov,h1,h2⟩:=S.sl i _ he
   obtain ⟨a,as,rfl,hl,nd,h3,h4⟩:=h2
   exact ⟨_,h1,k F H σ L S (.refl _) _ ⟨a,as,rs,rfl,rfl,h3,h4,nd,fun b hb=>⟨(S.ow i b (by rw [hl];exact hb)).2.1,(S.ow i b (by rw [hl];exact hb)).1⟩⟩⟩
  ·cases e
theorem ps_retTe (ha:PDt X e f):PS1 X (rT X.K) (.Return (some e) pos) (sRet f):=PS1.mk <| PS.of (L2.ps_ret ha) fun D0 σ H ⟨BF,BH,F,env,L,o,env',S,e,k⟩=>by
 unfold sRet at e
 split at e
 ·rename_i d h1
  cases e
  exact ⟨BF,BH,F,env,L,d,S,h1,fun v F' H' z r=>k F' H' σ L (S.ext z) z.ff v (rT_mono S.s0 r)⟩
 ·cases e
theorem enter_len {n:Nat} {ds:List D} (h:ds.length≤n):(enter n ds).length=n:=by
 unfold enter
 rw [List.length_append,List.length_map,List.length_replicate]
 omega
theorem sok_start {K:PySem.W.Frag} {F H:Hp} {N:List Str} {ds:List D} {vs:List V} (fh:Same F H) (r:Reps K F ds vs) (hl:ds.length≤N.length):SOk K F H F H (L2.start N vs) (enter N.length ds) (fun _=>[]) where
 s0:=.refl _
 f0:=.refl _
 fh:=fh
 fd:=fun a o h=>.inl h
 ow:=fun i a h=>by cases h
 dj:=fun i j a h=>by cases h
 len:=by
  rw [enter_len hl]
  unfold L2.start
  rw [List.length_append,List.length_map,List.length_replicate]
  have:=r.length
  omega
 sl:=fun i s h=>by
  unfold enter at h
  unfold L2.start
  by_cases hi:i < ds.length
  ·rw [List.getElem?_append_left (by rw [List.length_map];exact hi),List.getElem?_map,List.getElem?_eq_getElem hi] at h
   cases h
   obtain ⟨v,h1,h2⟩:=r.get (i:=i) (d:=ds[i]) (by simp [hi])
   refine ⟨some v,?_,v,rfl,h2⟩
   rw [List.getElem?_append_left (by rw [List.length_map,← r.length];exact hi),List.getElem?_map,h1];rfl
  ·rw [List.getElem?_append_right (by rw [List.length_map];omega),List.length_map,List.getElem?_replicate] at h
   split at h
   ·rename_i hlt
    cases h
    refine ⟨none,?_,trivial⟩
    rw [List.getElem?_append_right (by rw [List.length_map,← r.length];omega),List.length_map,List.getElem?_replicate,if_pos (by rw [← r.length];exact hlt)]
   ·cases h
theorem run_inv {p n:Nat} {g:St} {ds:List D} {d:D} (h:run p n g ds=some d):ds.length=p∧((∃ env',g (enter n ds)=some (.rt d,env'))∨(d=.non∧∃ env',g (enter n ds)=some (.nx,env'))):=by
 unfold run at h
 split at h
 ·rename_i hl
  split at h
  ·rename_i d' e1 hg;cases h;exact ⟨hl,.inl ⟨e1,hg⟩⟩
  ·rename_i e1 hg;cases h;exact ⟨hl,.inr ⟨rfl,e1,hg⟩⟩
  ·cases h
 ·cases h
theorem fn_ok {P:Program} {w:World} {K:PySem.W.Frag} {mg:Str→Option Value} {base:Heap} {x qual:Str} {st:Stmt} {f:Addr} {fd:FuncData} {N ps:List Str} {k:Nat} {m:RetP} {g:St} (F:L2.Fun K x qual st f fd) (S:L2.FnScope N ps (L2.defScope st))
  (hm:(∀ BH F' H',m BH F' H' .non .non)∨∀ env env',g env≠some (.nx,env')) (hb:∀ (cdv:Value) (A:Around) (outer:List PySem.Env) (s:Shared) (H:Hp) (E:L2.XK),L2.Room k (A.deeper (envOfC qual (L2.defScope st) s.heap.objs.size f cdv)) →
   PSd (L2.cxOf L2.CX0 P w K mg base N qual (L2.defScope st) f cdv A outer s H E).nox m (L2.defBody st) g):L2.FnOk P w K mg base L2.CX0 (k + 1) f fd ps (spR K m (run ps.length N.length g)):=by
 have hpl:ps.length≤N.length:=by have:=congrArg List.length S.pre;rw [List.length_take] at this;omega
 refine F.ok S (fun vs H Q E h=>?_) (fun cdv A outer s H vs Q E hr h=>?_)
 ·obtain ⟨F0,ds,d,h1,h2,h3,h4⟩:=h
  rw [← h2.length]
  exact (run_inv h3).1
 ·obtain ⟨F0,ds,d,h1,h2,h3,h4⟩:=h
  obtain ⟨hl,h3⟩:=run_inv h3
  refine ⟨_,(hb cdv A outer s H E hr).h,?_⟩
  have S0:=sok_start (N:=N) h1 h2 (by omega)
  rcases h3 with ⟨env',hg⟩ | ⟨rfl,env',hg⟩
  ·exact ⟨F0,H,F0,_,_,.rt d,env',S0,hg,fun F' H' σ' L' S' s' v r=>h4 v F' H' S'.toExt r⟩
  ·rcases hm with hm | hm
   ·exact ⟨F0,H,F0,_,_,.nx,env',S0,hg,fun F' H' σ' L' S' s'=>h4 .non F' H' S'.toExt (hm _ _ _)⟩
   ·exact absurd hg (hm _ _)
theorem rk_non {K:PySem.W.Frag} (m1:Md):∀ BH F' H',rk K m1 BH F' H' .non .non:=fun _ _ _=>by simp [rk,Rep]
end
end PV
set_option linter.all false
set_option Elab.async false
set_option maxRecDepth 100000
set_option maxHeartbeats 4000000
namespace PV
open PySem PySem.Spec PyProof.Rows
open L2 (V Hp HO Vals SqL SqT Same upd Cx PE PT PW PA PS PSs TE TT TA TS Inv RelV upd_same upd_ne ne_of_none Un)
def relabS (sc osc:Scope):Scope :=
 { sc with names:=sc.names.map fun (n,k)=>if (k == .free && osc.kind == .function && osc.names.lookup n == some .cell) then (n,.cell) else (n,k) }
def blk (X:Cx) (osc sc:Scope) (cs:List (Str × Addr)) (C:Addr) (s0:Shared) (H0:Hp) (fp:List Addr) (pins:List (Addr × Obj)):Cx :=
 { X with
  env:={ scope:=relabS sc osc,locals:=C,globals:=X.env.globals,cells:=cs,qual:=X.env.qual,func:=none,code:=X.env.code,frame:=X.env.frame,builtins:=X.env.builtins }
  s₀:=s0,H₀:=H0,outer:=X.stack,stack:=X.stack,ex:=fp,fn:=fun y=>decide (sc.names.lookup y=some .cell),pn:=X.pn++pins }
structure CompOk (N:List Str) (osc sc:Scope) (x:Str):Prop where
 kind:sc.kind=.function
 loc:∀ y ∈ sc.names,y.2=.local→sc.names.lookup y.1=some .local
 free:∀ y ∈ sc.names,y.2=.free→osc.names.lookup y.1=some .cell∨osc.names.lookup y.1=some .free
 var:sc.names.lookup x=some .local∨sc.names.lookup x=some .cell
 own:∀ y ∈ sc.names,(y.2=.local∨y.2=.cell)→y.1=x∨y.1 ∉ N
 cell:∀ y ∈ sc.names,y.2=.cell→y.1=x
 once:(sc.names.filter fun y=>y.2 == .cell).length≤1
def compB (N:List Str) (osc sc:Scope) (x:Str):Bool :=
 (sc.kind == .function) && (sc.names.all fun y=>!(y.2 == .local) || sc.names.lookup y.1 == some .local) && (sc.names.all fun y=>!(y.2 == .free) || (osc.names.lookup y.1 == some .cell || osc.names.lookup y.1 == some .free)) &&
 (sc.names.lookup x == some .local || sc.names.lookup x == some .cell) && (sc.names.all fun y=>!(y.2 == .local || y.2 == .cell) || (y.1 == x || !N.contains y.1)) && (sc.names.all fun y=>!(y.2 == .cell) || y.1 == x) && decide ((sc.names.filter fun y=>y.2 == .cell).length≤1)
theorem compB_ok {N:List Str} {osc sc:Scope} {x:Str} (h:compB N osc sc x=true):CompOk N osc sc x:=by
 unfold compB at h
 simp only [Bool.and_eq_true,List.all_eq_true,Bool.or_eq_true,Bool.not_eq_true',decide_eq_true_eq] at h
 obtain ⟨⟨⟨⟨⟨⟨h1,h2⟩,h3⟩,h4⟩,h5⟩,h6⟩,h7⟩:=h
 refine ⟨by simpa using h1,fun y hy e=>?_,fun y hy e=>?_,?_,fun y hy e=>?_,fun y hy e=>?_,h7⟩
 ·rcases h2 y hy with z | z
  ·rw [e] at z;simp at z
  ·simpa using z
 ·rcases h3 y hy with z | z
  ·rw [e] at z;simp at z
  ·rcases z with z | z
   ·exact .inl (by simpa using z)
   ·exact .inr (by simpa using z)
 ·rcases h4 with z | z
  ·exact .inl (by simpa using z)
  ·exact .inr (by simpa using z)
 ·rcases h5 y hy with z | z
  ·rcases e with e | e <;> (rw [e] at z;simp at z)
  ·rcases z with z | z
   ·exact .inl (by simpa using z)
   ·exact .inr (by simpa using z)
 ·rcases h6 y hy with z | z
  ·rw [e] at z;simp at z
  ·simpa using z
theorem closure_ex {env : PySem.Env} {sc : Scope} (h : ∀ y ∈ sc.names, y.2 = .free → ∃ c, env.cells.lookup y.1 = some c) :
    ∃ cl, closureFor sc env = pure cl ∧ (∀ n c, cl.lookup n = some c → env.cells.lookup n = some c) ∧ (∀ y ∈ sc.names, y.2 = .free → ∃ c, cl.lookup y.1 = some c) ∧ (∀ n c, cl.lookup n = some c → (n, NameKind.free) ∈ sc.names) := by
  have go : ∀ (names : List (Str × NameKind)) (acc : List (Str × Addr)), (∀ y ∈ names, y.2 = .free → ∃ c, env.cells.lookup y.1 = some c) → (∀ n c, acc.lookup n = some c → env.cells.lookup n = some c) →
      ∃ cl, (forIn names acc (fun (p : Str × NameKind) (cs : List (Str × Addr)) => (match p with | (name, kind) => if (kind == .free) = true then (do let a ← cellOf env name; pure (ForInStep.yield ((name, a) :: cs))) else pure (ForInStep.yield cs) : Sem (ForInStep (List (Str × Addr))))) : Sem (List (Str × Addr))) = pure cl ∧
        (∀ n c, cl.lookup n = some c → env.cells.lookup n = some c) ∧ (∀ n c, acc.lookup n = some c → ∃ c', cl.lookup n = some c') ∧ (∀ y ∈ names, y.2 = .free → ∃ c, cl.lookup y.1 = some c) ∧ (∀ n c, cl.lookup n = some c → acc.lookup n = some c ∨ (n, NameKind.free) ∈ names) := by
    intro names
    induction names with
    | nil => intro acc _ ha; exact ⟨acc, rfl, ha, fun n c e => ⟨c, e⟩, (fun y hy => nomatch hy), fun n c e => .inl e⟩
    | cons p r ih =>
      obtain ⟨n, k⟩ := p
      intro acc hf ha
      have hr : ∀ y ∈ r, y.2 = .free → ∃ c, env.cells.lookup y.1 = some c := fun y hy => hf y (List.mem_cons_of_mem _ hy)
      rw [List.forIn_cons]
      by_cases hk : k = .free
      · obtain ⟨c, hc⟩ := hf (n, k) List.mem_cons_self hk
        have ha' : ∀ n' c', ((n, c) :: acc).lookup n' = some c' → env.cells.lookup n' = some c' := fun n' c' e => by
          rw [List.lookup_cons] at e
          cases hb : n' == n with
          | true => rw [hb] at e; cases e; rw [beq_iff_eq.mp hb]; exact hc
          | false => rw [hb] at e; exact ha n' c' e
        obtain ⟨cl, e1, e2, e3, e4, e5⟩ := ih ((n, c) :: acc) hr ha'
        have step : (if (k == NameKind.free) = true then (do let a ← cellOf env n; pure (ForInStep.yield ((n, a) :: acc))) else pure (ForInStep.yield acc) : Sem (ForInStep (List (Str × Addr)))) = pure (ForInStep.yield ((n, c) :: acc)) := by
          rw [if_pos (by simp [hk])]
          unfold cellOf
          rw [show env.cells.lookup n = some c from hc]
          rfl
        refine ⟨cl, ?_, e2, fun n' c' e => ?_, fun y hy hy2 => ?_, fun n' c' e => ?_⟩
        · dsimp only
          rw [step]
          exact e1
        · by_cases hb : n' == n
          · exact e3 n' c (by rw [List.lookup_cons, hb])
          · exact e3 n' c' (by rw [List.lookup_cons]; simp only [Bool.not_eq_true] at hb; rw [hb]; exact e)
        · rcases List.mem_cons.mp hy with rfl | hy
          · exact e3 n c (by rw [List.lookup_cons]; simp)
          · exact e4 y hy hy2
        · rcases e5 n' c' e with z | z
          · rw [List.lookup_cons] at z
            cases hb : n' == n with
            | true => rw [beq_iff_eq.mp hb, ← hk]; exact .inr List.mem_cons_self
            | false => rw [hb] at z; exact .inl z
          · exact .inr (List.mem_cons_of_mem _ z)
      · obtain ⟨cl, e1, e2, e3, e4, e5⟩ := ih acc hr ha
        have step : (if (k == NameKind.free) = true then (do let a ← cellOf env n; pure (ForInStep.yield ((n, a) :: acc))) else pure (ForInStep.yield acc) : Sem (ForInStep (List (Str × Addr)))) = pure (ForInStep.yield acc) := by
          rw [if_neg (by simpa using hk)]
        refine ⟨cl, ?_, e2, e3, fun y hy hy2 => ?_, fun n' c' e => ?_⟩
        · dsimp only
          rw [step]
          exact e1
        · rcases List.mem_cons.mp hy with rfl | hy
          · exact absurd hy2 hk
          · exact e4 y hy hy2
        · rcases e5 n' c' e with z | z
          · exact .inl z
          · exact .inr (List.mem_cons_of_mem _ z)
  obtain ⟨cl, e1, e2, _, e4, e5⟩ := go sc.names [] h (fun n c e => by simp at e)
  refine ⟨cl, ?_, e2, e4, fun n c e => (e5 n c e).elim (fun z => by simp at z) id⟩
  unfold closureFor
  exact (congrArg (fun (t : Sem (List (Str × Addr))) => t >>= fun cs => pure cs) e1)
theorem cells_none:∀ (names:List (Str × NameKind)) (n:Nat) (acc:List (Str × Addr)) (h:Heap),(∀ y ∈ names,y.2≠.cell)→cellsFrom n names acc=acc∧pushCells h names=h
 | [],_,_,_,_=>⟨rfl,rfl⟩
 | (x,k)::r,n,acc,h,hc=>by
  have hk:(k == NameKind.cell)=false:=by simpa using hc (x,k) List.mem_cons_self
  unfold cellsFrom pushCells
  rw [if_neg (by rw [hk];simp),if_neg (by rw [hk];simp)]
  exact cells_none r n acc h fun y hy=>hc y (List.mem_cons_of_mem _ hy)
theorem cells_one:∀ (names:List (Str × NameKind)) (n:Nat) (acc:List (Str × Addr)) (h:Heap) (x:Str),(∀ y ∈ names,y.2=.cell→y.1=x)→(names.filter fun y=>y.2 == .cell).length=1 →
  cellsFrom n names acc=(x,n)::acc∧pushCells h names=h.push { cls:=.type "cell",data:=.cell none }
 | [],_,_,_,_,_,hl=>by simp at hl
 | (y,k)::r,n,acc,h,x,hx,hl=>by
  by_cases hk:k=.cell
  ·subst hk
   have hr:∀ y ∈ r,y.2≠.cell:=fun z hz e=>by
    rw [List.filter_cons_of_pos (by simp)] at hl
    have hlen:(r.filter fun y=>y.2 == .cell).length=0:=by simpa using hl
    have hmem:z ∈ r.filter fun y=>y.2 == .cell:=List.mem_filter.mpr ⟨hz,by simp [e]⟩
    rw [List.length_eq_zero_iff.mp hlen] at hmem
    cases hmem
   have hyx:y=x:=hx (y,.cell) List.mem_cons_self rfl
   subst hyx
   unfold cellsFrom pushCells
   rw [if_pos (by simp),if_pos (by simp)]
   exact ⟨(cells_none r _ _ h hr).1,(cells_none r n acc _ hr).2⟩
  ·have hk':(k == NameKind.cell)=false:=by simpa using hk
   unfold cellsFrom pushCells
   rw [if_neg (by rw [hk'];simp),if_neg (by rw [hk'];simp)]
   exact cells_one r n acc h x (fun z hz=>hx z (List.mem_cons_of_mem _ hz)) (by rw [List.filter_cons_of_neg (by rw [hk'];simp)] at hl;exact hl)
theorem newEnv_comp {M:Model} {A:Around} {E:Value→Shared→Prop} {s:Shared} {sc:Scope} {g:Addr} {cl:List (Str × Addr)} {q:Str} {outer:PySem.Env} {Q:PySem.Env→Shared→Prop}
  (h:Q { scope:=sc,locals:=s.heap.objs.size,globals:=g,cells:=cellsFrom (s.heap.objs.size + 1) sc.names cl,qual:=q,func:=none,code:=outer.code,frame:=outer.frame,builtins:=outer.builtins }
   { s with heap:=pushCells (s.heap.push { cls:=.type "dict",data:=.dict #[] }) sc.names }):wpAny M A (newFunctionEnv sc g cl [] q none .none (some outer)) Q E s:=by
 simp only [newFunctionEnv,Option.isSome_some,if_true]
 refine wpAny_bind (wpAny_alloc ?_)
 refine wpAny_bind (wpAny_layCells _ (fun name kind cells=>by cases hkc:kind == NameKind.cell <;> simp [hkc]) _ _ _ _ ?_)
 rw [show ({ s with heap:=s.heap.push { cls:=.type "dict",data:=.dict #[] } }:Shared).heap.objs.size=s.heap.objs.size + 1 from Heap.size_push ..]
 exact wpAny_bind (wpAny_pure (wpAny_pure h))
end PV
set_option linter.all false
set_option Elab.async false
set_option maxRecDepth 100000
set_option maxHeartbeats 4000000
namespace PV
open PySem PySem.Spec PyProof.Rows
open L2 (V Hp HO Vals SqL SqT Same upd Cx PE PT PW PA PS PSs TE TT TA TS Inv RelV upd_same upd_ne ne_of_none Un)
def rkd (osc:Scope) (n:Str) (k:NameKind):NameKind:=if (k == NameKind.free && osc.kind == .function && osc.names.lookup n == some .cell)=true then NameKind.cell else k
theorem lookup_snd (f:Str→NameKind→NameKind):∀ (names:List (Str × NameKind)) (y:Str),(names.map fun p=>(p.1,f p.1 p.2)).lookup y=(names.lookup y).map (f y)
 | [],y=>rfl
 | (n,k)::r,y=>by
  rw [List.map_cons,List.lookup_cons,List.lookup_cons]
  cases hy:y == n with
  | true =>
   have e:y=n:=beq_iff_eq.mp hy
   subst e
   rfl
  | false=>exact lookup_snd f r y
theorem lookup_relab {osc:Scope} (names:List (Str × NameKind)) (y:Str):(names.map fun (n,k)=>if (k == NameKind.free && osc.kind == .function && osc.names.lookup n == some .cell) then (n,NameKind.cell) else (n,k)).lookup y =
  (names.lookup y).map (rkd osc y):=by
 rw [← lookup_snd (rkd osc)]
 congr 1
 refine List.map_congr_left fun p _=>?_
 obtain ⟨n,k⟩:=p
 unfold rkd
 dsimp only
 split <;> rfl
theorem relab_kind {sc osc:Scope} {y:Str} {k:NameKind} (h:(relabS sc osc).names.lookup y=some k):∃ k0,sc.names.lookup y=some k0∧(k=k0∨(k0=.free∧k=.cell)):=by
 have h':=h
 unfold relabS at h'
 dsimp only at h'
 rw [lookup_relab] at h'
 cases e:sc.names.lookup y with
 | none=>rw [e] at h';cases h'
 | some k0 =>
  rw [e] at h'
  refine ⟨k0,rfl,?_⟩
  have h2:rkd osc y k0=k:=Option.some.inj h'
  unfold rkd at h2
  split at h2
  ·rename_i hc
   simp only [Bool.and_eq_true,beq_iff_eq] at hc
   exact .inr ⟨hc.1.1,h2.symm⟩
  ·exact .inl h2.symm
theorem relab_local {sc osc:Scope} {y:Str} (h:sc.names.lookup y=some .local):(relabS sc osc).names.lookup y=some .local:=by
 unfold relabS;dsimp only;rw [lookup_relab,h];rfl
theorem relab_cell {sc osc:Scope} {y:Str} (h:sc.names.lookup y=some .cell):(relabS sc osc).names.lookup y=some .cell:=by
 unfold relabS;dsimp only;rw [lookup_relab,h];rfl
theorem relab_free {sc osc:Scope} {y:Str} (h:sc.names.lookup y=some .free):(relabS sc osc).names.lookup y=some .cell∨(relabS sc osc).names.lookup y=some .free:=by
 unfold relabS;dsimp only;rw [lookup_relab,h]
 show some (rkd osc y .free)=some _∨some (rkd osc y .free)=some _
 unfold rkd
 split
 ·exact .inl rfl
 ·exact .inr rfl
section
variable {X:Cx} {osc sc:Scope} {x:Str} {i:Nat} {pins:List (Addr × Obj)} {σ:L2.St} {H:Hp} {s:Shared} {cl:List (Str × Addr)} {fp:List Addr}
theorem cells_fact (CO : CompOk X.N osc sc x) (h0 : Heap) (n : Nat) :
    (∀ y ∈ sc.names, y.2 ≠ .cell) ∧ cellsFrom n sc.names cl = cl ∧ pushCells h0 sc.names = h0 ∨
    (x, NameKind.cell) ∈ sc.names ∧ cellsFrom n sc.names cl = (x, n) :: cl ∧ pushCells h0 sc.names = h0.push { cls := .type "cell", data := .cell none } := by
  by_cases h : ∀ y ∈ sc.names, y.2 ≠ .cell
  · exact .inl ⟨h, cells_none sc.names n cl h0 h⟩
  · have h' : ∃ y ∈ sc.names, y.2 = .cell := by
      refine Classical.byContradiction fun z => h fun y hy e => z ⟨y, hy, e⟩
    obtain ⟨⟨y, k⟩, hy, e⟩ := h'
    have e' : k = .cell := e
    subst e'
    have hyx : y = x := CO.cell (y, .cell) hy rfl
    subst hyx
    have hl : (sc.names.filter fun y => y.2 == .cell).length = 1 := by
      have h1 := CO.once
      have hm : (y, NameKind.cell) ∈ sc.names.filter fun y => y.2 == .cell := List.mem_filter.mpr ⟨hy, by simp⟩
      have h2 := List.length_pos_of_mem hm
      omega
    exact .inr ⟨hy, cells_one sc.names n cl h0 y CO.cell hl⟩
theorem blk_inv (I : Inv X pins σ H s) (CO : CompOk X.N osc sc x) (hosc : X.env.scope = osc) (nd : X.N.Nodup) (hi : X.N[i]? = some x)
    (c1 : ∀ n c, cl.lookup n = some c → X.env.cells.lookup n = some c) (c2 : ∀ y ∈ sc.names, y.2 = .free → ∃ c, cl.lookup y.1 = some c) (c3 : ∀ n c, cl.lookup n = some c → (n, NameKind.free) ∈ sc.names)
    (hf : ∀ b ∈ fp, L2.FpOk X pins H b) (hl : ∀ b ∈ fp, b < s.heap.objs.size) :
    Inv (blk X osc sc (cellsFrom (s.heap.objs.size + 1) sc.names cl) s.heap.objs.size s H fp pins) [] (σ.set i none) H { s with heap := pushCells (s.heap.push { cls := .type "dict", data := .dict #[] }) sc.names } := by
  have keep : ∀ b o, s.heap.get? b = some o → (pushCells (s.heap.push { cls := .type "dict", data := .dict #[] }) sc.names).get? b = some o := fun b o e => pushCells_keeps _ _ b o (Heap.get?_push_of_some _ e)
  have hsz : (s.heap.push { cls := .type "dict", data := .dict #[] }).objs.size = s.heap.objs.size + 1 := Heap.size_push ..
  have hns : (pushCells (s.heap.push { cls := .type "dict", data := .dict #[] }) sc.names).Ns s.heap.objs.size (fun _ => none) := (Heap.Ns.new s.heap (.type "dict")).keeps (pushCells_keeps _ _)
  have F1 : ∀ y c, (cellsFrom (s.heap.objs.size + 1) sc.names cl).lookup y = some c → (X.env.cells.lookup y = some c ∧ c < s.heap.objs.size) ∨ (y = x ∧ c = s.heap.objs.size + 1 ∧ (pushCells (s.heap.push { cls := .type "dict", data := .dict #[] }) sc.names).IsCell c none) := fun y c e => by
    have old : cl.lookup y = some c → X.env.cells.lookup y = some c ∧ c < s.heap.objs.size := fun z => by
      have z1 := c1 y c z
      obtain ⟨v, q⟩ := I.cell y c z1
      exact ⟨z1, q.lt⟩
    rcases cells_fact (cl := cl) CO (s.heap.push { cls := .type "dict", data := .dict #[] }) (s.heap.objs.size + 1) with ⟨_, e1, _⟩ | ⟨_, e1, e2⟩
    · rw [e1] at e; exact .inl (old e)
    · rw [e1, List.lookup_cons] at e
      cases hy : y == x with
      | true =>
        rw [hy] at e
        cases e
        refine .inr ⟨beq_iff_eq.mp hy, rfl, ?_⟩
        rw [e2]
        exact ⟨_, by rw [← hsz]; exact Heap.get?_push_size _ rfl, rfl⟩
      | false => rw [hy] at e; exact .inl (old e)
  have F2 : ∀ y c, y ≠ x → cl.lookup y = some c → (cellsFrom (s.heap.objs.size + 1) sc.names cl).lookup y = some c := fun y c hy e => by
    rcases cells_fact (cl := cl) CO (s.heap.push { cls := .type "dict", data := .dict #[] }) (s.heap.objs.size + 1) with ⟨_, e1, _⟩ | ⟨_, e1, _⟩
    · rw [e1]; exact e
    · rw [e1, List.lookup_cons, beq_false_of_ne hy]; exact e
  have fresh : ∀ a, s.heap.objs.size ≤ a → H a = none := fun a ha => I.hok.fresh ha
  refine ⟨⟨I.ok.mod, CO.kind, I.ok.glob, I.ok.blt, Nat.le_refl _, fun y z c h1 h2 => ?_, fun y hy => ?_, fun y c hy e => ?_, I.ok.hd, I.ok.frames, .inl rfl, fun b hb => ⟨?_, fun y c e z => ?_⟩, I.bs, Nat.le_trans I.ok.bsz I.sz, fun b o e hb => ?_, fun b hb z => ?_, I.stack, I.stkFree⟩,
    rfl, I.bare, Un.kept keep, ⟨_, hns, fun j y v h1 h2 h3 => ?_⟩, fun y c e => ?_, fresh _ (Nat.le_refl _), fun y c e => ?_, fun p hp => ?_, I.hok.kept keep, by rw [List.length_set]; exact I.len⟩
  · -- inj
    rcases F1 y c h1 with ⟨a1, a2⟩ | ⟨a1, a2, _⟩
    · rcases F1 z c h2 with ⟨b1, b2⟩ | ⟨b1, b2, _⟩
      · exact I.ok.inj y z c a1 b1
      · rw [b2] at a2; exact absurd a2 (Nat.not_lt.mpr (Nat.le_succ _))
    · rcases F1 z c h2 with ⟨b1, b2⟩ | ⟨b1, b2, _⟩
      · rw [a2] at b2; exact absurd b2 (Nat.not_lt.mpr (Nat.le_succ _))
      · rw [a1, b1]
  · -- has
    have hy' : (relabS sc osc).names.lookup y = some .cell ∨ (relabS sc osc).names.lookup y = some .free := hy
    have hk : sc.names.lookup y = some .cell ∨ sc.names.lookup y = some .free := by
      rcases hy' with z | z
      · obtain ⟨k0, e0, e1⟩ := relab_kind z
        rcases e1 with e1 | ⟨e1, _⟩
        · rw [← e1] at e0; exact .inl e0
        · rw [e1] at e0; exact .inr e0
      · obtain ⟨k0, e0, e1⟩ := relab_kind z
        rcases e1 with e1 | ⟨_, e1⟩
        · rw [← e1] at e0; exact .inr e0
        · cases e1
    rcases hk with z | z
    · have hm := PySem.mem_of_lookup z
      have hyx : y = x := CO.cell (y, .cell) hm rfl
      subst hyx
      rcases cells_fact (cl := cl) CO (s.heap.push { cls := .type "dict", data := .dict #[] }) (s.heap.objs.size + 1) with ⟨n1, _, _⟩ | ⟨_, e1, _⟩
      · exact absurd rfl (n1 _ hm)
      · exact ⟨s.heap.objs.size + 1, by show (cellsFrom _ _ _).lookup y = _; rw [e1, List.lookup_cons]; simp⟩
    · obtain ⟨c, hc⟩ := c2 (y, .free) (PySem.mem_of_lookup z) rfl
      have hc' : cl.lookup y = some c := hc
      rcases cells_fact (cl := cl) CO (s.heap.push { cls := .type "dict", data := .dict #[] }) (s.heap.objs.size + 1) with ⟨_, e1, _⟩ | ⟨_, e1, _⟩
      · exact ⟨c, by show (cellsFrom _ _ _).lookup y = _; rw [e1]; exact hc'⟩
      · cases hy : y == x with
        | true => exact ⟨_, by show (cellsFrom _ _ _).lookup y = _; rw [e1, List.lookup_cons, hy]⟩
        | false => exact ⟨c, by show (cellsFrom _ _ _).lookup y = _; rw [e1, List.lookup_cons, hy]; exact hc'⟩
  · -- cab
    have hy' : sc.names.lookup y = some .cell := of_decide_eq_true hy
    have hm := PySem.mem_of_lookup hy'
    have hyx : y = x := CO.cell (y, .cell) hm rfl
    subst hyx
    have e' : (cellsFrom (s.heap.objs.size + 1) sc.names cl).lookup y = some c := e
    rcases cells_fact (cl := cl) CO (s.heap.push { cls := .type "dict", data := .dict #[] }) (s.heap.objs.size + 1) with ⟨n1, _, _⟩ | ⟨_, e1, _⟩
    · exact absurd rfl (n1 _ hm)
    · rw [e1, List.lookup_cons] at e'
      simp at e'
      show s.heap.objs.size ≤ c
      rw [← e']
      exact Nat.le_succ _
  · exact Nat.ne_of_lt (hl b hb)
  · rcases F1 y c e with ⟨a1, a2⟩ | ⟨_, a2, _⟩
    · obtain ⟨_, _, _, _, f5, _⟩ := hf b hb
      exact f5 y c a1 z
    · have h3 := hl b hb
      rw [← z, a2] at h3
      exact absurd h3 (Nat.not_lt.mpr (Nat.le_succ _))
  · obtain ⟨_, _, _, f4, _⟩ := hf b hb
    rcases f4 with z | z
    · exact I.ok.noex b o e z
    · exact absurd (Nat.lt_of_lt_of_le (Heap.lt_size e) I.ok.bsz) (Nat.not_lt.mpr z)
  · obtain ⟨_, f2, f3, _⟩ := hf b hb
    rcases List.mem_cons.mp (I.stkSub b z) with q | q
    · exact f2 q
    · exact f3 q
  · -- loc
    have hji : j ≠ i := fun e => by
      subst e
      by_cases hlt : j < σ.length
      · rw [List.getElem?_set_self hlt] at h2; cases h2
      · rw [List.getElem?_eq_none (by rw [List.length_set]; omega)] at h2; cases h2
    rw [List.getElem?_set_ne (Ne.symm hji)] at h2
    have hyx : y ≠ x := fun e => hji (L2.nodup_ix nd (by rw [← e]; exact h1) hi)
    have hmemN : y ∈ X.N := List.mem_of_getElem? h1
    have hk : sc.names.lookup y = some .free := by
      have h3' : (relabS sc osc).names.lookup y = some .local ∨ (relabS sc osc).names.lookup y = some .cell ∨ (relabS sc osc).names.lookup y = some .free := h3
      have own : ∀ k, sc.names.lookup y = some k → (k = .local ∨ k = .cell) → False := fun k e hk => by
        rcases CO.own (y, k) (PySem.mem_of_lookup e) hk with z | z
        · exact hyx z
        · exact z hmemN
      rcases h3' with z | z | z
      · obtain ⟨k0, e0, e1⟩ := relab_kind z
        rcases e1 with e1 | ⟨_, e1⟩
        · exact (own k0 e0 (.inl e1.symm)).elim
        · cases e1
      · obtain ⟨k0, e0, e1⟩ := relab_kind z
        rcases e1 with e1 | ⟨e1, _⟩
        · exact (own k0 e0 (.inr e1.symm)).elim
        · rw [e1] at e0; exact e0
      · obtain ⟨k0, e0, e1⟩ := relab_kind z
        rcases e1 with e1 | ⟨_, e1⟩
        · rw [← e1] at e0; exact e0
        · cases e1
    have hm := PySem.mem_of_lookup hk
    have ho := CO.free (y, .free) hm rfl
    obtain ⟨m, hn, hloc⟩ := I.loc
    obtain ⟨u, ru, lk⟩ := hloc j y v h1 h2 (by rw [hosc]; rcases ho with z | z; exact .inr (.inl z); exact .inr (.inr z))
    refine ⟨u, ru, .inr ⟨relab_free hk, ?_⟩⟩
    rcases lk with ⟨k1, _⟩ | ⟨_, c, hc, hcell⟩
    · have k1' : X.env.scope.names.lookup y = some .local := k1
      rw [hosc] at k1'
      rcases ho with z | z <;> (rw [k1'] at z; cases z)
    · obtain ⟨c', hc'⟩ := c2 (y, .free) hm rfl
      have e1 := c1 y c' hc'
      rw [hc] at e1; cases e1
      exact ⟨c, F2 y c hyx hc', hcell.keeps keep⟩
  · rcases F1 y c e with ⟨a1, _⟩ | ⟨_, _, a3⟩
    · obtain ⟨v, q⟩ := I.cell y c a1
      exact ⟨v, q.keeps keep⟩
    · exact ⟨none, a3⟩
  · rcases F1 y c e with ⟨a1, _⟩ | ⟨_, a2, _⟩
    · exact I.freeC y c a1
    · exact fresh c (by rw [a2]; exact Nat.le_succ _)
  · have hp' : p ∈ X.pn ++ pins := by
      have : p ∈ (X.pn ++ pins) ++ [] := hp
      simpa using this
    obtain ⟨q1, q2, q3, q4, q5⟩ := I.pin p hp'
    refine ⟨keep _ _ q1, q2, Nat.ne_of_lt (Heap.lt_size q1), fun z => ?_, q5⟩
    rcases List.mem_cons.mp (I.stkSub _ z) with w | w
    · exact q3 w
    · exact q4 w
theorem blk_back {cs:List (Str × Addr)} {C:Addr} {pinsB:List (Addr × Obj)} {σb:L2.St} {Hb:Hp} {s1:Shared} (I:Inv X pins σ H s) (hf:∀ b ∈ fp,L2.FpOk X pins H b) (Ib:Inv (blk X osc sc cs C s H fp pins) pinsB σb Hb s1):Inv X pins σ Hb s1 :=
 I.call' (ch:=fp) Ib.os Ib.base Ib.hok Ib.bare fun b hb=>by
  obtain ⟨_,f2,_,f4,f5,f6⟩:=hf b hb
  exact ⟨f4,f2,f5,f6⟩
end
section
variable {prog:Program} {w:World} {A:Around} {R:Result→Shared→Prop} {s:Shared}
theorem compLoop_any {elt target iter : Expr} {ifs : List Expr} {scope : Scope} {pos : Pos} {it acc : Value} {env : PySem.Env} (I : Nat → Shared → Prop)
    (turn : ∀ n s, I n s → wpAny (model prog w) A (pyNext it) (fun r s₁ => match r with
      | none => R (.ok .next) s₁
      | some v => wpAny (model prog w) A (letOwnedTupleGo target it v) (fun _ s₁' => wpAny (model prog w) A (assign target env v) (fun _ s₂ =>
          wpAny (model prog w) A (forIn ifs true fun c r => if r = true then do let ok ← isTrue c env (eval c env); pure (ForInStep.yield ok) else pure (ForInStep.yield r)) (fun ok s₃ =>
            if ok = true then wpAny (model prog w) A (eval elt env) (fun x s₄ =>
              wpAny (model prog w) A (call (.builtin "list.append") [acc, x]) (fun _ s₅ => ∃ m, m < n ∧ I m s₅) (fun _ _ => False) s₄) (fun _ _ => False) s₃
            else ∃ m, m < n ∧ I m s₃) (fun _ _ => False) s₂) (fun _ _ => False) s₁') (fun _ _ => False) s₁) (fun _ _ => False) s)
    (n : Nat) (h : I n s) :
    codeAny (model prog w) A (.compLoop (.ListComp elt [⟨target, iter, ifs, 0⟩] scope pos) 0 it acc env) R s := by
  refine codeAny_loop rfl I (fun n s hI => ?_) n h
  show wpAny _ A ((compTurn (.ListComp elt [⟨target, iter, ifs, 0⟩] scope pos) 0 it acc env).onRaise (fun x => do noteFrame x env; theTreesLotGoes x)) _ _ s
  refine wpAny_noted ?_
  rw [compTurn_list]
  refine wpAny_bind (wpAny_standAt (wpAny_bind (wpAny_mono (turn n s hI) (fun r s₁ h₁ => ?_) fun _ _ h' => h'.elim)))
  cases r with
  | none => exact wpAny_pure h₁
  | some v =>
    refine wpAny_bind (wpAny_mono h₁ (fun _ s₁' h₁' => ?_) fun _ _ h' => h'.elim)
    refine wpAny_bind (wpAny_mono h₁' (fun _ s₂ h₂ => wpAny_bind (wpAny_mono h₂ (fun ok s₃ h₃ => ?_) fun _ _ h' => h'.elim)) fun _ _ h' => h'.elim)
    cases ok with
    | false => exact wpAny_pure ⟨rfl, h₃⟩
    | true =>
      exact wpAny_bind (wpAny_bind (wpAny_mono h₃ (fun x s₄ h₄ => wpAny_bind (wpAny_mono h₄ (fun _ s₅ h₅ => wpAny_pure (wpAny_pure ⟨rfl, h₅⟩)) fun _ _ h' => h'.elim)) fun _ _ h' => h'.elim))
end
end PV
set_option linter.all false
set_option Elab.async false
set_option maxRecDepth 100000
set_option maxHeartbeats 4000000
namespace PV
open PySem PySem.Spec PyProof.Rows
open L2 (V Hp HO Vals SqL SqT Same upd Cx PE PT PW PA PS PSs TE TT TA TS Inv RelV upd_same upd_ne ne_of_none Un)
def TestsOk (X:Cx) (ifs:List Expr) (tc:TT):Prop:=∀ (pins:List (Addr × Obj)) (s:Shared) (σ:L2.St) (H:Hp) (Q:Bool→Hp→Prop),Inv X pins σ H s→tc σ H Q →
 wpAny (model X.prog X.w) X.A (forIn ifs true fun c r=>if r=true then do let ok ← isTrue c X.env (eval c X.env);pure (ForInStep.yield ok) else pure (ForInStep.yield r)) (L2.TP X pins σ Q) X.xe s
theorem tests_nil {X:Cx}:TestsOk X [] (fun _ H Q=>Q true H):=fun pins s σ H Q I h=>wpAny_tests_nil ⟨H,I,h⟩
theorem tests_one {X:Cx} {c:Expr} {tc:TT} (h:PT X c tc):TestsOk X [c] tc:=fun pins s σ H Q I q=>wpAny_tests_one (h pins s σ H Q I q)
def compTurns (J:L2.It) (i:Nat) (tc:TT) (te:TE) (σ:L2.St) (p:Addr) (Q:L2.VK) (H1:Hp):Prop :=
 ∃ W:Nat→Nat→Hp→List V→Prop,(∃ m,W 0 m (upd H1 p (.lst [])) [])∧∀ k m H2 acc,W k m H2 acc→H2 p=some (.lst acc)∧acc.length < sizeLine ∧
  ((J.stop k H2∧Q (.ref p) H2)∨(J.go k H2∧∀ v H3,J.yld k H2 v H3→tc (σ.set i (some v)) H3 fun b H4=>if b=true then te (σ.set i (some v)) H4 fun w H5=>H5 p=some (.lst acc)∧∃ m',m' < m∧W (k + 1) m' (upd H5 p (.lst (acc++[w]))) (acc++[w])
   else ∃ m',m' < m∧W (k + 1) m' H4 acc))
def tComp (wi:L2.TI) (i:Nat) (tc:TT) (te:TE):TE:=fun σ H Q=>wi σ H fun J H1=>∀ p,H1 p=none→compTurns J i tc te σ p Q H1
section
variable {X:Cx} {sc:Scope} {x:Str} {i:Nat} {px pos:Pos} {iter elt:Expr} {ifs:List Expr} {wi:L2.TI} {tc:TT} {te:TE}
theorem comp_block (nox : ∀ e s, X.xe e s → False) (hc : X.calm = true) (nd : X.N.Nodup) (CO : CompOk X.N X.env.scope sc x) (hi : X.N[i]? = some x)
    (hT : ∀ cs C s0 H0 fp pn, TestsOk (blk X X.env.scope sc cs C s0 H0 fp pn) ifs tc) (hE : ∀ cs C s0 H0 fp pn, PE (blk X X.env.scope sc cs C s0 H0 fp pn) elt te)
    {pins : List (Addr × Obj)} {σ : L2.St} {H : Hp} {s : Shared} {E : Value → Shared → Prop} {Q : L2.VK} {it : Addr} {fp : List Addr} {tn : Nat → Heap → Prop} {J : L2.It} {cl : List (Str × Addr)} {RR : Value → Addr → Result → Shared → Prop}
    (I : Inv X pins σ H s) (T : L2.Turn X.prog X.w X.K (.Name x px) J fp it tn) (st : tn 0 s.heap) (hf : ∀ b ∈ fp, L2.FpOk X pins H b) (hq : ∀ p, H p = none → compTurns J i tc te σ p Q H)
    (c1 : ∀ n c, cl.lookup n = some c → X.env.cells.lookup n = some c) (c2 : ∀ y ∈ sc.names, y.2 = .free → ∃ c, cl.lookup y.1 = some c) (c3 : ∀ n c, cl.lookup n = some c → (n, NameKind.free) ∈ sc.names)
    (hRR : ∀ (p C : Addr) (Hb : Hp) (m : Str → Option Value) (s1 : Shared), Inv X pins σ Hb s1 → Q (.ref p) Hb → s1.heap.Ns C m → Hb C = none → C ≠ X.env.locals → X.s₀.heap.objs.size ≤ C → (∀ y c, X.env.cells.lookup y = some c → c ≠ C) → (∀ q ∈ X.pn ++ pins, q.1 ≠ C) → C ∉ X.fs → RR (.ref p) C (.ok .next) s1) :
    wpAny (model X.prog X.w) X.A (newList []) (fun acc s₃ => wpAny (model X.prog X.w) X.A (newFunctionEnv sc X.env.globals cl [] X.env.qual none .none (some X.env)) (fun cenv s₄ =>
      codeAny (model X.prog X.w) X.A (.compStart (.ListComp elt [⟨.Name x px, iter, ifs, 0⟩] sc pos) 0 (.ref it) acc { cenv with scope := relabel sc X.env }) (RR acc cenv.locals) s₄) E s₃) E s := by
  refine wpAny_newObj_type (newEnv_comp ?_)
  have hp : H s.heap.objs.size = none := I.fresh
  have I3 : Inv X pins σ (upd H s.heap.objs.size (.lst [])) { s with heap := s.heap.push { cls := .type "list", data := .seq ([] : List Value).toArray } } := I.lnew (t' := s.toks) (its := []) (ys := []) .nil (Nat.zero_le _)
  obtain ⟨W, ⟨m0, w0⟩, turn⟩ := hq _ hp
  generalize hs3 : ({ s with heap := s.heap.push { cls := .type "list", data := .seq ([] : List Value).toArray } } : Shared) = s3 at I3
  generalize hH3 : upd H s.heap.objs.size (.lst []) = H3 at I3 w0
  have hlt : ∀ b ∈ fp, b < s.heap.objs.size := fun b hb => by obtain ⟨o, e, _⟩ := T.obj 0 s.heap st b hb; exact Heap.lt_size e
  have hk3 : ∀ b o, s.heap.get? b = some o → s3.heap.get? b = some o := fun b o e => by rw [← hs3]; exact Heap.get?_push_of_some _ e
  have hf3 : ∀ b ∈ fp, L2.FpOk X pins H3 b := fun b hb => by
    obtain ⟨f1, f2⟩ := hf b hb
    refine ⟨?_, f2⟩
    rw [← hH3, upd_ne (Nat.ne_of_lt (hlt b hb))]
    exact f1
  have st3 : tn 0 s3.heap := T.keep 0 _ _ st fun b hb o e => hk3 b o e
  have hl3 : ∀ b ∈ fp, b < s3.heap.objs.size := fun b hb => by obtain ⟨o, e, _⟩ := T.obj 0 s3.heap st3 b hb; exact Heap.lt_size e
  have Ib := blk_inv (i := i) (fp := fp) I3 CO rfl nd hi c1 c2 c3 hf3 hl3
  let Xb := blk X X.env.scope sc (cellsFrom (s3.heap.objs.size + 1) sc.names cl) s3.heap.objs.size s3 H3 fp pins
  have hTb : TestsOk Xb ifs tc := hT _ _ _ _ _ _
  have hEb : PE Xb elt te := hE _ _ _ _ _ _
  have stk : ∀ b, b ∈ L2.frs X.stack → b < s3.heap.objs.size := fun b hb => by
    refine Nat.lt_of_not_le fun hle => ?_
    rcases List.mem_cons.mp (I3.stkSub b hb) with z | z
    · rw [z] at hle; exact absurd I3.lt (Nat.not_lt.mpr hle)
    · exact I3.nofs hle z
  have st4 : tn 0 (pushCells (s3.heap.push { cls := .type "dict", data := .dict #[] }) sc.names) := T.keep 0 _ _ st3 fun b hb o e => pushCells_keeps _ _ b o (Heap.get?_push_of_some _ e)
  have xf : ∀ {α : Type} {t : Sem α} {Q : α → Shared → Prop} {s : Shared}, wpAny (model X.prog X.w) X.A t Q X.xe s → wpAny (model X.prog X.w) X.A t Q (fun _ _ => False) s := fun h => wpAny_mono h (fun _ _ q => q) fun e s q => nox e s q
  have pgx : L2.PG Xb (.Name x px) (L2.gName i) := by
    refine L2.pg_name nd hi ?_ ?_
    · rcases CO.var with z | z
      · exact .inl (relab_local z)
      · exact .inr (relab_cell z)
    · rcases CO.var with z | z
      · exact .inr (relab_local z)
      · exact .inl (decide_eq_true z)
  have loop : ∀ s4 : Shared, s4 = { s3 with heap := pushCells (s3.heap.push { cls := .type "dict", data := .dict #[] }) sc.names } →
      codeAny (model X.prog X.w) X.A (.compLoop (.ListComp elt [⟨.Name x px, iter, ifs, 0⟩] sc pos) 0 (.ref it) (.ref s.heap.objs.size) Xb.env) (RR (.ref s.heap.objs.size) s3.heap.objs.size) s4 := by
    rintro s4 rfl
    have stat : ∀ {Hc : Hp}, (∀ b ∈ fp, Hc b = none) → ∀ b ∈ fp, L2.FpOk Xb [] Hc b := fun {Hc} hn b hb => by
      obtain ⟨_, f2, f3, f4, f5, f6⟩ := hf3 b hb
      refine ⟨hn b hb, Nat.ne_of_lt (hl3 b hb), fun z => ?_, .inl hb, Ib.ok.exf b hb |>.2, fun q hq' => ?_⟩
      · rcases List.mem_cons.mp (I3.stkSub b z) with w | w
        · exact f2 w
        · exact f3 w
      · have hq2 : q ∈ (X.pn ++ pins) ++ [] := hq'
        exact f6 q (by simpa using hq2)
    refine compLoop_any (fun n s' => ∃ k ov Hc acc, Inv Xb [] (σ.set i ov) Hc s' ∧ tn k s'.heap ∧ (∀ b ∈ fp, Hc b = none) ∧ W k n Hc acc) ?_ m0 ⟨0, none, H3, [], Ib, st4, fun b hb => (hf3 b hb).1, w0⟩
    rintro n s5 ⟨k, ov, Hc, acc, I5, st5, fr5, w5⟩
    obtain ⟨hacc, hlen, hcase⟩ := turn k n Hc acc w5
    rcases hcase with ⟨stop, qn⟩ | ⟨go, step⟩
    · refine xf (L2.thn (T.done Xb rfl rfl rfl hc k [] s5 (σ.set i ov) Hc X.xe I5 (stat fr5) st5 stop) fun r s6 ⟨hr, I6⟩ => ?_)
      subst hr
      obtain ⟨mm, hn6, _⟩ := I6.loc
      refine hRR _ _ Hc mm s6 (blk_back (osc := X.env.scope) (sc := sc) I3 hf3 I6) qn hn6 I6.free (Ne.symm (Nat.ne_of_lt I3.lt)) I3.sz (fun y c e z => ?_) (fun q hq' z => ?_) fun z => ?_
      · obtain ⟨v, q⟩ := I3.cell y c e
        exact absurd q.lt (by rw [z]; exact Nat.lt_irrefl _)
      · exact absurd (Heap.lt_size (I3.pin q hq').1) (by rw [z]; exact Nat.lt_irrefl _)
      · exact I3.nofs (Nat.le_refl _) z
    · refine xf (L2.thn (T.item Xb rfl rfl rfl hc k [] s5 (σ.set i ov) Hc X.xe I5 (stat fr5) st5 go) fun r s6 ⟨u, hr, h6⟩ => ?_)
      subst hr
      refine xf (L2.thn h6 fun _ s7 ⟨v, H7, I7, r7, y7, st7, fr7⟩ => ?_)
      have I7' := I7.pinned (stat fr7) (T.obj _ _ st7)
      have hv := step v H7 y7
      refine xf (L2.thn (pgx _ s7 (σ.set i ov) H7 v u (fun σ' H' => σ' = σ.set i (some v) ∧ H' = H7) I7' r7 ⟨by rw [List.set_set], rfl⟩) fun _ s8 ⟨σ8, H8, I8, e8, e8'⟩ => ?_)
      subst e8 e8'
      refine xf (L2.thn (hTb _ s8 _ H8 _ I8 hv) fun ok s9 ⟨H9, I9, q9⟩ => ?_)
      have again : ∀ {σ10 : L2.St} {H10 : Hp} {acc' : List V} {s10 : Shared}, Inv Xb ([] ++ L2.pinsAt fp s7.heap) σ10 H10 s10 → σ10 = σ.set i (some v) → (∃ m', m' < n ∧ W (k + 1) m' H10 acc') →
          ∃ m, m < n ∧ ∃ k ov Hc acc, Inv Xb [] (σ.set i ov) Hc s10 ∧ tn k s10.heap ∧ (∀ b ∈ fp, Hc b = none) ∧ W k m Hc acc := fun {σ10 H10 acc' s10} I10 e10 ⟨m', hm, w10⟩ => by
        subst e10
        refine ⟨m', hm, k + 1, some v, H10, acc', I10.unpinned, T.keep _ _ _ st7 fun b hb o e => (I10.pin (b, o) (List.mem_append_right _ (List.mem_append_right _ (L2.mem_pinsAt hb e)))).1, fun b hb => ?_, w10⟩
        obtain ⟨o, e, d⟩ := T.obj _ _ st7 b hb
        exact (I10.pin (b, o) (List.mem_append_right _ (List.mem_append_right _ (L2.mem_pinsAt hb e)))).2.1
      cases ok with
      | false =>
        show ∃ m, m < n ∧ _
        rw [if_neg Bool.false_ne_true] at q9
        exact again I9 rfl q9
      | true =>
        rw [if_pos rfl] at q9
        show wpAny _ _ _ _ _ _
        refine xf (L2.thn (hEb _ s9 _ H9 _ I9 q9) fun ww s10 ⟨x10, H10, I10, r10, q10, m', hm, w10⟩ => ?_)
        refine xf (L2.thn (L2.mt_append (X := Xb) _ s10 _ H10 (.ref s.heap.objs.size) [x10] (.ref s.heap.objs.size) [ww] (fun _ H' => H' = upd H10 s.heap.objs.size (.lst (acc ++ [x10]))) I10 rfl (.cons r10 .nil) ⟨_, acc, x10, rfl, rfl, q10, hlen, rfl⟩) fun _ s11 ⟨_, H11, I11, _, e11⟩ => ?_)
        subst e11
        exact again I11 rfl ⟨m', hm, w10⟩
  subst hs3
  have l := loop _ rfl
  exact codeAny_compStart_list l (T.self _ 0 _ _ _ st4 l)
theorem clos_of {pins:List (Addr × Obj)} {σ:L2.St} {H:Hp} {s:Shared} (I:Inv X pins σ H s) (CO:CompOk X.N X.env.scope sc x):∀ y ∈ sc.names,y.2=.free→∃ c,X.env.cells.lookup y.1=some c:=fun y hy e =>
 I.ok.has y.1 (CO.free y hy e)
theorem pe_comp (nox:∀ e s,X.xe e s→False) (hc:X.calm=true) (nd:X.N.Nodup) (CO:CompOk X.N X.env.scope sc x) (hi:X.N[i]?=some x) (hI:L2.PI X (.Name x px) iter wi)
  (hT:∀ cs C s0 H0 fp pn,TestsOk (blk X X.env.scope sc cs C s0 H0 fp pn) ifs tc) (hE:∀ cs C s0 H0 fp pn,PE (blk X X.env.scope sc cs C s0 H0 fp pn) elt te)
  (hs:∀ x,foldedSetIterable iter X.env x=pure x):PE X (.ListComp elt [⟨.Name x px,iter,ifs,0⟩] sc pos) (tComp wi i tc te):=by
 intro pins s σ H Q I h
 obtain ⟨cl,hcl,c1,c2,c3⟩:=closure_ex (clos_of I CO)
 rw [eval_ListComp]
 refine wpAny_comprehension_free (use:=none) rfl hs hcl CO.kind CO.loc (L2.thn (hI pins s σ H _ I h) fun v s1 h1=>L2.thn h1 fun itv s2 h2=>?_)
 obtain ⟨it,fp,tn,J,H2,rfl,I2,T,st,hf,hq⟩:=h2
 refine comp_block (RR:=fun acc C=>compPost (model X.prog X.w) X.A X.xe none (L2.EP X pins σ Q) acc C) nox hc nd CO hi hT hE I2 T st hf hq c1 c2 c3 ?_
 intro p C Hb m s1' I' q hns hC hL hsz hcell hpin hfs
 refine ⟨m,hns,fun h' hs'=>?_⟩
 have I'':=I'.turned (h':=h') (t':=s1'.toks) (it:=C) (fun b o hb e=>hs'.extBut b o hb e) hC hL (.inr hsz) hcell hpin
 exact ⟨.ref p,Hb,I'',rfl,q⟩
theorem ps_setComp {j:Nat} {y:Str} {py spos:Pos} (nox:∀ e s,X.xe e s→False) (hc:X.calm=true) (nd:X.N.Nodup) (CO:CompOk X.N X.env.scope sc x) (hi:X.N[i]?=some x) (hI:L2.PI X (.Name x px) iter wi)
  (hT:∀ cs C s0 H0 fp pn,TestsOk (blk X X.env.scope sc cs C s0 H0 fp pn) ifs tc) (hE:∀ cs C s0 H0 fp pn,PE (blk X X.env.scope sc cs C s0 H0 fp pn) elt te)
  (hs:∀ x,foldedSetIterable iter X.env x=pure x) (hj:X.N[j]?=some y) (hy:L2.Loc X.env.scope y) (hfn:X.fn y=true∨X.env.scope.names.lookup y=some .local)
  (hsw:swapsWith (.ListComp elt [⟨.Name x px,iter,ifs,0⟩] sc pos) (some (.Name y py)) spos.line X.env=pure true) :
  PS X (.Assign [.Name y py] (.ListComp elt [⟨.Name x px,iter,ifs,0⟩] sc pos) spos) (L2.tAsg (tComp wi i tc te) (L2.gName j)):=by
 intro pins s σ H D0 I h
 obtain ⟨cl,hcl,c1,c2,c3⟩:=closure_ex (clos_of I CO)
 rw [exec_Assign_Name_used _ _ _ _ hsw]
 refine wpAny_bind (wpAny_standAt (wpAny_bind ?_))
 show wpAny _ X.A (do let _ ← comprehension (.ListComp elt [⟨.Name x px,iter,ifs,0⟩] sc pos) sc X.env _ (newList []) false (eval iter X.env) (some (assign (.Name y py) X.env))) _ _ s
 refine wpAny_bind (wpAny_mono (wpAny_comprehension_free (use:=some (assign (.Name y py) X.env)) (Q:=fun _ s'=>L2.SP X pins D0 .next s') rfl hs hcl CO.kind CO.loc
  (L2.thn (hI pins s σ H _ I h) fun v s1 h1=>L2.thn h1 fun itv s2 h2=>?_)) (fun _ s' hq=>wpAny_pure (wpAny_pure hq)) fun _ _ e=>e)
 obtain ⟨it,fp,tn,J,H2,rfl,I2,T,st,hf,hq⟩:=h2
 refine comp_block (RR:=fun acc C=>compPost (model X.prog X.w) X.A X.xe (some (assign (.Name y py) X.env)) (fun _ s'=>L2.SP X pins D0 .next s') acc C) nox hc nd CO hi hT hE I2 T st hf hq c1 c2 c3 ?_
 intro p C Hb m s1' I' q hns hC hL hsz hcell hpin hfs
 show wpAny _ X.A (assign (.Name y py) X.env (.ref p)) _ _ _
 obtain ⟨oC,es,ep,hoC,hdC,rest⟩:=id hns
 have Ip:Inv X (pins++[(C,oC)]) σ Hb s1':=I'.pins_of fun q hq'=>(List.mem_append.mp hq').elim (fun z=>I'.pin q (List.mem_append_right _ z)) fun z=>by
  have e:q=(C,oC):=by simpa using z
  subst e
  exact ⟨hoC,hC,hL,hfs,fun v e=>by rw [hdC] at e;cases e⟩
 refine wpAny_assign_Name (L2.store_ok Ip nd hj hy (v:=.ref p) rfl (fun s2' I2'=>?_) hfn)
 have hC2:=(I2'.pin (C,oC) (List.mem_append_right _ (List.mem_append_right _ (by simp)))).1
 refine ⟨m,⟨oC,es,ep,hC2,hdC,rest⟩,fun h' hs'=>?_⟩
 have I3':Inv X pins (σ.set j (some (.ref p))) Hb s2':=I2'.unpinned
 have I4':=I3'.turned (h':=h') (t':=s2'.toks) (it:=C) (fun b o hb e=>hs'.extBut b o hb e) hC hL (.inr hsz) hcell hpin
 exact ⟨_,Hb,I4',q⟩
end
end PV
set_option linter.all false
set_option Elab.async false
set_option maxRecDepth 100000
set_option maxHeartbeats 4000000
namespace PV
open PySem PySem.Spec PyProof.Rows
open L2 (V Hp HO Vals SqL SqT Same upd Cx PE PT PW PA PS PSs TE TT TA TS Inv RelV upd_same upd_ne ne_of_none Un)
section
variable {X:Cx} {sc:Scope} {x:Str} {i:Nat} {px pos:Pos} {iter elt c:Expr} {lx:Lx} {t:Tx} {f:Ex} {m:Md} {r:RetP}
theorem Ext.upd_own {F H F2 H2 F5 H5:Hp} (e:Ext F H F2 H2) (e5:Ext F2 H2 F5 H5) {p:Addr} (hp:H p=none) (f2:F2 p=none) (h2:H2 p≠none) (o:HO):Ext F H F5 (upd H5 p o)∧F5 p=none:=by
 have f5:F5 p=none:=by
  cases z:F5 p with
  | none=>rfl
  | some u =>
   rcases e5.dm p u z with y | y
   ·rw [f2] at y;cases y
   ·exact absurd y h2
 have e':=e.trans e5
 refine ⟨⟨fun b u h=>by rw [upd_ne (ne_of_none h hp)];exact e'.hh b u h,e'.ff,e'.dm,fun b u h=>by rw [upd_ne (ne_of_none h f5)];exact e'.fh b u h⟩,f5⟩
theorem hpM_upd {BH F H:Hp} {p:Addr} {o:HO} (hm:m≠.r):Same (hpM BH F H m) (hpM BH F (upd H p o) m):=by
 cases m with
 | r=>exact absurd rfl hm
 | k=>exact .refl _
 | f=>exact .refl _
theorem comp_turns {K:PySem.W.Frag} {tc:TT} (htc:∀ σ H Q,tTst K t σ H Q→tc σ H Q) (hm:m≠.r) {BF BH F F1 H H1:Hp} {σ:L2.St} {env:Env} {L:Nat→List Addr} {ds xs:List D} {J:L2.It} {p:Addr} {Q:L2.VK} (S:SOk K BF BH F H σ env L) (z1:Ext F H F1 H1) (J1:ItOk K J F1 ds)
  (hl:ds.length≤lim) (hx:compL i t f env ds=some xs) (hp:H1 p=none) (q:∀ vs F' H',Ext F H F' H'→H p=none→H' p=some (.lst vs)→F' p=none→Reps K (hpM BH F' H' m) xs vs→Q (.ref p) H') :
  compTurns J i tc (tD K m f) σ p Q H1:=by
 have hp0:H p=none:=z1.hh.free hp
 have hpF:F1 p=none:=z1.fh.free hp
 refine ⟨fun k mm H2 acc=>mm=ds.length - k∧k≤ds.length∧H2 p=some (.lst acc)∧∃ F2 ys zs,Ext F H F2 H2∧Same F1 F2∧F2 p=none∧ys.length≤k∧Reps K (hpM BH F2 H2 m) ys acc∧compL i t f env (ds.drop k)=some zs∧xs=ys++zs,
  ⟨ds.length,by simp,Nat.zero_le _,upd_same,F1,[],xs,z1.trans (Ext.own z1.fh hp),.refl _,hpF,Nat.zero_le _,Reps.nil,hx,rfl⟩,?_⟩
 rintro k mm H2 acc ⟨rfl,hk,hacc,F2,ys,zs,z2,s12,f2,hy,ra,hz,hxs⟩
 have hal:acc.length≤lim:=by rw [← ra.length];omega
 refine ⟨hacc,Nat.lt_of_le_of_lt hal lim_lt,?_⟩
 by_cases hlt:k < ds.length
 ·refine .inr ⟨J1.go k H2 (s12.trans z2.fh) hlt,fun v H3 hy3=>?_⟩
  obtain ⟨d,F3,hd,z3,r3⟩:=J1.yld k H2 v H3 F2 s12 z2.fh hlt hy3
  have hd':ds[k]=d:=by rw [List.getElem?_eq_getElem hlt] at hd;exact Option.some.inj hd
  rw [List.drop_eq_getElem_cons hlt,hd'] at hz
  simp only [compL] at hz
  have z13:=z2.trans z3
  have S3:=(S.ext z13).setSh i r3
  have h2p:H2 p≠none:=by rw [hacc];simp
  split at hz
  ·rename_i ht
   refine htc _ _ _ ⟨BF,BH,F3,_,_,true,S3,ht,fun F4 H4 z4=>L2.iteT ?_⟩
   split at hz
   ·rename_i e1 zs' he hz'
    cases hz
    refine ⟨BF,BH,F4,_,_,e1,S3.ext z4,he,fun w F5 H5 z5 r5=>?_⟩
    have z25:=(z3.trans z4).trans z5
    obtain ⟨zz,f5⟩:=z2.upd_own z25 hp0 f2 h2p (.lst (acc++[w]))
    refine ⟨z25.hh _ _ hacc,ds.length - (k + 1),by omega,rfl,hlt,upd_same,F5,ys++[e1],zs',zz,s12.trans z25.ff,f5,by rw [List.length_append,List.length_singleton];omega,?_,hz',by rw [hxs,List.append_assoc];rfl⟩
    exact Reps.mono (hpM_upd hm) _ _ ((Reps.mono (hpM_ext z25 m) _ _ ra).append (Reps.cons r5 Reps.nil))
   ·cases hz
  ·rename_i ht
   refine htc _ _ _ ⟨BF,BH,F3,_,_,false,S3,ht,fun F4 H4 z4=>L2.iteF ?_⟩
   have z24:=z3.trans z4
   have f4:F4 p=none:=by
    cases q4:F4 p with
    | none=>rfl
    | some u =>
     rcases z24.dm p u q4 with y | y
     ·rw [f2] at y;cases y
     ·exact absurd y h2p
   exact ⟨ds.length - (k + 1),by omega,rfl,hlt,z24.hh _ _ hacc,F4,ys,zs,z2.trans z24,s12.trans z24.ff,f4,by omega,Reps.mono (hpM_ext z24 m) _ _ ra,hz,hxs⟩
  ·cases hz
 ·have ek:k=ds.length:=by omega
  subst ek
  rw [List.drop_length] at hz
  have hz0:zs=[]:=by simp only [compL] at hz;exact (Option.some.inj hz).symm
  subst hz0
  rw [List.append_nil] at hxs
  subst hxs
  exact .inl ⟨J1.stop H2 (s12.trans z2.fh),q acc F2 H2 z2 hp0 hacc f2 ra⟩
theorem eComp_inv {env:Env} {d:D} (h:eComp i lx t f env=some d):∃ ds xs,lx env=some ds∧ds.length≤lim∧compL i t f env ds=some xs∧d=.lst xs:=by
 unfold eComp at h
 split at h
 ·rename_i ds h1
  split at h
  ·rename_i hl
   split at h
   ·rename_i xs h2
    cases h
    exact ⟨ds,xs,h1,hl,h2,rfl⟩
   ·cases h
  ·cases h
 ·cases h
theorem comp_tO {tc:TT} (htc:∀ σ H Q,tTst X.K t σ H Q→tc σ H Q) (hm:m≠.r) (σ:L2.St) (H:Hp) (Q:L2.VK) (h:tO X.K m (eComp i lx t f) σ H Q):tComp (tIt X.K lx) i tc (tD X.K m f) σ H Q:=by
 obtain ⟨BF,BH,F,env,L,ds0,S,e,q⟩:=h
 obtain ⟨ds,xs,h1,hl,h2,e2⟩:=eComp_inv e
 cases e2
 exact ⟨BF,BH,F,env,L,ds,S,h1,fun J F1 H1 z1 J1 p hp=>comp_turns htc hm S z1 J1 hl h2 hp fun vs F' H' z a b c d=>q p vs F' H' z a b c d⟩
theorem tc_nil {K:PySem.W.Frag}:∀ σ H Q,tTst K tTrue σ H Q→(fun (_:L2.St) (H:Hp) (Q:Bool→Hp→Prop)=>Q true H) σ H Q:=fun σ H Q ⟨BF,BH,F,env,L,b,S,e,q⟩=>by
 cases e;exact q F H (.refl S.fh)
variable (nox:∀ e s,X.xe e s→False) (nd:X.N.Nodup)
include nox nd
theorem po_comp (i:Nat) (hI:PId X (.Name x px) iter lx) (hE:∀ cs C s0 H0 fp pn,PD (blk X X.env.scope sc cs C s0 H0 fp pn) m elt f) (hm:m≠.r:=by exact fun h=>nomatch h) (hc:X.calm=true:=by rfl) (hco:compB X.N X.env.scope sc x=true:=by kernel_rfl) (hi:X.N[i]?=some x:=by kernel_rfl)
  (hs:∀ x,foldedSetIterable iter X.env x=pure x:=by intro _;rfl):PDo X m (.ListComp elt [⟨.Name x px,iter,[],0⟩] sc pos) (eComp i lx tTrue f) :=
 PE.of (pe_comp (te:=tD X.K m f) nox hc nd (compB_ok hco) hi hI (fun _ _ _ _ _ _=>tests_nil) (fun cs C s0 H0 fp pn=>(hE cs C s0 H0 fp pn).h) hs) fun σ H Q h=>comp_tO tc_nil hm σ H Q h
theorem po_comp1 (i:Nat) (hI:PId X (.Name x px) iter lx) (hT:∀ cs C s0 H0 fp pn,PTd (blk X X.env.scope sc cs C s0 H0 fp pn) c t) (hE:∀ cs C s0 H0 fp pn,PD (blk X X.env.scope sc cs C s0 H0 fp pn) m elt f) (hm:m≠.r:=by exact fun h=>nomatch h) (hc:X.calm=true:=by rfl)
  (hco:compB X.N X.env.scope sc x=true:=by kernel_rfl) (hi:X.N[i]?=some x:=by kernel_rfl) (hs:∀ x,foldedSetIterable iter X.env x=pure x:=by intro _;rfl):PDo X m (.ListComp elt [⟨.Name x px,iter,[c],0⟩] sc pos) (eComp i lx t f) :=
 PE.of (pe_comp (tc:=tTst X.K t) (te:=tD X.K m f) nox hc nd (compB_ok hco) hi hI (fun cs C s0 H0 fp pn=>tests_one (hT cs C s0 H0 fp pn)) (fun cs C s0 H0 fp pn=>(hE cs C s0 H0 fp pn).h) hs) fun σ H Q h=>comp_tO (fun _ _ _ q=>q) hm σ H Q h
theorem pd_comp (i:Nat) (hI:PId X (.Name x px) iter lx) (hE:∀ cs C s0 H0 fp pn,PD (blk X X.env.scope sc cs C s0 H0 fp pn) m elt f) (hm:m≠.r:=by exact fun h=>nomatch h) (hc:X.calm=true:=by rfl) (hco:compB X.N X.env.scope sc x=true:=by kernel_rfl) (hi:X.N[i]?=some x:=by kernel_rfl)
  (hs:∀ x,foldedSetIterable iter X.env x=pure x:=by intro _;rfl):PD X m (.ListComp elt [⟨.Name x px,iter,[],0⟩] sc pos) (eComp i lx tTrue f) :=
 (po_comp nox nd i hI hE hm hc hco hi hs).d fun env d h=>by obtain ⟨_,xs,_,_,_,e⟩:=eComp_inv h;exact ⟨xs,e⟩
theorem pd_comp1 (i:Nat) (hI:PId X (.Name x px) iter lx) (hT:∀ cs C s0 H0 fp pn,PTd (blk X X.env.scope sc cs C s0 H0 fp pn) c t) (hE:∀ cs C s0 H0 fp pn,PD (blk X X.env.scope sc cs C s0 H0 fp pn) m elt f) (hm:m≠.r:=by exact fun h=>nomatch h) (hc:X.calm=true:=by rfl)
  (hco:compB X.N X.env.scope sc x=true:=by kernel_rfl) (hi:X.N[i]?=some x:=by kernel_rfl) (hs:∀ x,foldedSetIterable iter X.env x=pure x:=by intro _;rfl):PD X m (.ListComp elt [⟨.Name x px,iter,[c],0⟩] sc pos) (eComp i lx t f) :=
 (po_comp1 nox nd i hI hT hE hm hc hco hi hs).d fun env d h=>by obtain ⟨_,xs,_,_,_,e⟩:=eComp_inv h;exact ⟨xs,e⟩
omit nox nd
theorem asg_set {te:TE} {j:Nat} (D0:L2.Ends) (σ:L2.St) (H:Hp) (h:tS X.K r (sSet j f) D0 σ H) (hf:∀ env d,f env=some d→∃ ds,d=.lst ds) (hte:∀ Q,tO X.K .k f σ H Q→te σ H Q):L2.tAsg te (L2.gName j) D0 σ H:=by
 obtain ⟨BF,BH,F,env,L,o,env',S,e,k⟩:=h
 unfold sSet at e
 split at e
 ·rename_i d h1
  cases e
  obtain ⟨ds,rfl⟩:=hf env d h1
  refine hte _ ⟨BF,BH,F,env,L,ds,S,h1,fun p vs F' H' z h0 h2 h3 rr=>?_⟩
  have z':=z.frz h0 h2 h3
  have rp:Rep X.K (upd F' p (.lst vs)) (.lst ds) (.ref p):=by
   simp only [Rep]
   exact ⟨p,vs,rfl,.inl (.inl upd_same),Reps.mono (fun b u e=>by rw [upd_ne (ne_of_none e h3)];exact e) _ _ rr⟩
  exact k _ H' _ _ ((S.ext z').setSh j rp) z'.ff
 ·cases e
include nox nd
theorem ps_setsC (j i:Nat) {y:Str} {py spos:Pos} (hI:PId X (.Name x px) iter lx) (hE:∀ cs C s0 H0 fp pn,PD (blk X X.env.scope sc cs C s0 H0 fp pn) .k elt f) (hc:X.calm=true:=by rfl) (hco:compB X.N X.env.scope sc x=true:=by kernel_rfl) (hi:X.N[i]?=some x:=by kernel_rfl)
  (hs:∀ x,foldedSetIterable iter X.env x=pure x:=by intro _;rfl) (hj:X.N[j]?=some y:=by kernel_rfl) (hy:locB X.env.scope y=true:=by kernel_rfl) (hfn:fnB X y=true:=by kernel_rfl)
  (hsw:swapsWith (.ListComp elt [⟨.Name x px,iter,[],0⟩] sc pos) (some (.Name y py)) spos.line X.env=pure true:=by rfl):PS1 X r (.Assign [.Name y py] (.ListComp elt [⟨.Name x px,iter,[],0⟩] sc pos) spos) (sSet j (eComp i lx tTrue f)) :=
 PS1.mk <| PS.of (ps_setComp (te:=tD X.K .k f) nox hc nd (compB_ok hco) hi hI (fun _ _ _ _ _ _=>tests_nil) (fun cs C s0 H0 fp pn=>(hE cs C s0 H0 fp pn).h) hs hj (locB_ok hy) (fnB_ok hfn) hsw) fun D0 σ H h=>asg_set D0 σ H h (fun env d h=>by obtain ⟨_,xs,_,_,_,e⟩:=eComp_inv h;exact ⟨xs,e⟩) fun Q q=>comp_tO (m:=.k) tc_nil (fun h=>nomatch h) σ H Q q
omit nox nd
theorem rows_inv {K:PySem.W.Frag} {F H:Hp}:∀ {rs:List (List D)} {as:List Addr},RowsOk K F H rs as→∀ b ∈ as,H b≠none
 | [],as,h,b,hb=>by have e:as=[]:=h;subst e;cases hb
 | r::rs,as,h,b,hb=>by
  obtain ⟨c,t,vs,rfl,h1,_,h3⟩:=h
  rcases List.mem_cons.mp hb with rfl | hb
  ·rw [h1];simp
  ·exact rows_inv h3 b hb
theorem rows_snoc {K:PySem.W.Frag} {F H:Hp} {a:Addr} {vs:List V} {r:List D} (h1:H a=some (.lst vs)) (h2:Reps K F r vs):∀ {rs:List (List D)} {as:List Addr},RowsOk K F H rs as→RowsOk K F H (rs++[r]) (as++[a])
 | [],as,h=>by have e:as=[]:=h;subst e;exact ⟨a,[],vs,rfl,h1,h2,rfl⟩
 | r0::rs,as,h=>by obtain ⟨b,t,ws,rfl,k1,k2,k3⟩:=h;exact ⟨b,t++[a],ws,rfl,k1,k2,rows_snoc h1 h2 k3⟩
theorem comp_turnsT {K : PySem.W.Frag} {BF BH F F1 H H1 : Hp} {σ : L2.St} {env : Env} {L : Nat → List Addr} {ds xs : List D} {J : L2.It} {p : Addr} {Q : L2.VK} (S : SOk K BF BH F H σ env L) (z1 : Ext F H F1 H1) (J1 : ItOk K J F1 ds)
    (hl : ds.length ≤ lim) (hx : compL i tTrue f env ds = some xs) (hf : ∀ env d, f env = some d → ∃ ds, d = .lst ds) (hp : H1 p = none) (q : ∀ v F' H', Ext F H F' H' → rT K H F' H' (.lst xs) v → Q v H') :
    compTurns J i (fun _ H Q => Q true H) (tO K .k f) σ p Q H1 := by
  have hp0 : H p = none := z1.hh.free hp
  have hpF : F1 p = none := z1.fh.free hp
  refine ⟨fun k mm H2 acc => mm = ds.length - k ∧ k ≤ ds.length ∧ H2 p = some (.lst acc) ∧ ∃ F2 ys zs as, Ext F H F2 H2 ∧ Same F1 F2 ∧ (∀ b ∈ p :: as, H b = none ∧ F2 b = none) ∧ (p :: as).Nodup ∧ ys.length ≤ k ∧ acc = as.map .ref ∧ RowsOk K F2 H2 ys as ∧ compL i tTrue f env (ds.drop k) = some zs ∧ xs = ys.map .lst ++ zs,
    ⟨ds.length, by simp, Nat.zero_le _, upd_same, F1, [], xs, [], z1.trans (Ext.own z1.fh hp), .refl _, fun b hb => by
      rw [List.mem_singleton] at hb; subst hb; exact ⟨hp0, hpF⟩, by simp, Nat.zero_le _, rfl, rfl, hx, rfl⟩, ?_⟩
  rintro k mm H2 acc ⟨rfl, hk, hacc, F2, ys, zs, as, z2, s12, hown, nd, hy, rfl, hrows, hz, hxs⟩
  have hal : (as.map V.ref).length ≤ lim := by rw [List.length_map, ← hrows.length]; omega
  refine ⟨hacc, Nat.lt_of_le_of_lt hal lim_lt, ?_⟩
  by_cases hlt : k < ds.length
  · refine .inr ⟨J1.go k H2 (s12.trans z2.fh) hlt, fun v H3 hy3 => L2.iteT ?_⟩
    obtain ⟨d, F3, hd, z3, r3⟩ := J1.yld k H2 v H3 F2 s12 z2.fh hlt hy3
    have hd' : ds[k] = d := by rw [List.getElem?_eq_getElem hlt] at hd; exact Option.some.inj hd
    rw [List.drop_eq_getElem_cons hlt, hd'] at hz
    simp only [compL, tTrue] at hz
    have z13 := z2.trans z3
    have S3 := (S.ext z13).setSh i r3
    split at hz
    · rename_i e1 zs' he hz'
      cases hz
      obtain ⟨row, rfl⟩ := hf _ _ he
      refine ⟨BF, BH, F3, _, _, row, S3, he, fun a vs F5 H5 z5 ha0 ha1 ha2 rr => ?_⟩
      have z25 := z3.trans z5
      have h2p : H2 p ≠ none := by rw [hacc]; simp
      have ha2' : H2 a = none := z3.hh.free ha0
      have hpa : p ≠ a := fun e => by subst e; exact h2p ha2'
      have haas : a ∉ as := fun z => rows_inv hrows a z ha2'
      obtain ⟨zz, f5⟩ := z2.upd_own z25 hp0 (hown p List.mem_cons_self).2 h2p (.lst (as.map V.ref ++ [V.ref a]))
      have hpas : p ∉ as := (List.nodup_cons.mp nd).1
      have hrows5 : RowsOk K F5 (upd H5 p (.lst (as.map V.ref ++ [V.ref a]))) ys as := hrows.mono z25.ff fun b hb o e => by
        rw [upd_ne (fun q => hpas (by rw [← q]; exact hb))]; exact z25.hh _ _ e
      refine ⟨z25.hh _ _ hacc, ds.length - (k + 1), by omega, rfl, hlt, upd_same, F5, ys ++ [row], zs', as ++ [a], zz, s12.trans z25.ff, fun b hb => ?_, ?_, by rw [List.length_append, List.length_singleton]; omega, by rw [List.map_append]; rfl, ?_, hz', by rw [hxs, List.map_append, List.append_assoc]; rfl⟩
      · have own5 : ∀ b, b ∈ p :: as → F5 b = none := fun b hb => by
          cases q5 : F5 b with
          | none => rfl
          | some u =>
            rcases z25.dm b u q5 with y | y
            · rw [(hown b hb).2] at y; cases y
            · rcases List.mem_cons.mp hb with e | e
              · rw [e] at y; exact absurd y h2p
              · exact absurd y (rows_inv hrows b e)
        rcases List.mem_cons.mp hb with e | e
        · rw [e]; exact ⟨hp0, f5⟩
        · rcases List.mem_append.mp e with e | e
          · exact ⟨(hown b (List.mem_cons_of_mem _ e)).1, own5 b (List.mem_cons_of_mem _ e)⟩
          · rw [List.mem_singleton] at e; subst e; exact ⟨z2.hh.free ha2', ha2⟩
      · obtain ⟨n1, n2⟩ := List.nodup_cons.mp nd
        refine List.nodup_cons.mpr ⟨fun z => ?_, ?_⟩
        · rcases List.mem_append.mp z with e | e
          · exact n1 e
          · rw [List.mem_singleton] at e; exact hpa e
        · rw [List.nodup_append]
          exact ⟨n2, by simp, fun b hb c hc e => by rw [List.mem_singleton] at hc; subst hc; subst e; exact haas hb⟩
      · exact rows_snoc (by rw [upd_ne (Ne.symm hpa)]; exact ha1) rr hrows5
    · cases hz
  · have ek : k = ds.length := by omega
    subst ek
    rw [List.drop_length] at hz
    have hz0 : zs = [] := by simp only [compL] at hz; exact (Option.some.inj hz).symm
    subst hz0
    rw [List.append_nil] at hxs
    subst hxs
    exact .inl ⟨J1.stop H2 (s12.trans z2.fh), q _ F2 H2 z2 ⟨p, as, ys, rfl, rfl, hacc, hrows, nd, hown⟩⟩
include nox nd
theorem ps_tabC (j i:Nat) {y:Str} {py spos:Pos} (hI:PId X (.Name x px) iter lx) (hE:∀ cs C s0 H0 fp pn,PDo (blk X X.env.scope sc cs C s0 H0 fp pn) .k elt f) (hf:∀ env d,f env=some d→∃ ds,d=.lst ds) (hc:X.calm=true:=by rfl) (hco:compB X.N X.env.scope sc x=true:=by kernel_rfl) (hi:X.N[i]?=some x:=by kernel_rfl)
  (hs:∀ x,foldedSetIterable iter X.env x=pure x:=by intro _;rfl) (hj:X.N[j]?=some y:=by kernel_rfl) (hy:locB X.env.scope y=true:=by kernel_rfl) (hfn:fnB X y=true:=by kernel_rfl)
  (hsw:swapsWith (.ListComp elt [⟨.Name x px,iter,[],0⟩] sc pos) (some (.Name y py)) spos.line X.env=pure true:=by rfl):PS1 X r (.Assign [.Name y py] (.ListComp elt [⟨.Name x px,iter,[],0⟩] sc pos) spos) (sTab j (eComp i lx tTrue f)) :=
 PS1.mk <| PS.of (ps_setComp (te:=tO X.K .k f) nox hc nd (compB_ok hco) hi hI (fun _ _ _ _ _ _=>tests_nil) hE hs hj (locB_ok hy) (fnB_ok hfn) hsw) fun D0 σ H ⟨BF,BH,F,env,L,o,env',S,e,k⟩=>by
  unfold sTab at e
  split at e
  ·rename_i xs h1
   split at e
   ·rename_i rs hrs
    cases e
    obtain ⟨ds,xs',h2,hl,h3,e2⟩:=eComp_inv h1
    cases e2
    refine ⟨BF,BH,F,env,L,ds,S,h2,fun J F1 H1 z1 J1 p hp=>comp_turnsT S z1 J1 hl h3 hf hp fun v F' H' z rr=>?_⟩
    obtain ⟨a,as,rs',hd,rfl,h4,h5,h6,h7⟩:=rr
    injection hd with hd
    rw [hd,rows_lst] at hrs
    cases hrs
    exact k F' H' _ _ (tab_set S z j h4 h5 h6 h7) z.ff
   ·cases e
  ·cases e
end
end PV
set_option linter.all false
set_option Elab.async false
set_option maxRecDepth 100000
set_option maxHeartbeats 4000000
namespace PV
open PySem PySem.Spec PyProof.Rows
open L2 (V Hp HO Vals SqL SqT Same upd Cx PE PT PW PA PS PSs TE TT TA TS Inv RelV upd_same upd_ne ne_of_none Un)
section
variable {X:Cx} {m m1 m2:Md} {a b:Expr} {f g:Ex} {pos p p2:Pos}
theorem call_rangeD:L2.CallR X (.type "range") (fun xs H Q=>∃ j:Int,xs=[.int j]∧∀ q,H q=none→Q (.ref q) (upd H q (.rng 0 j))):=by
 intro pins s σ H xs us Q I r h
 obtain ⟨j,rfl,q⟩:=h
 obtain ⟨u,rfl,ru⟩:=r.one
 obtain ⟨t,rfl⟩:=ru
 refine call_range_1 ⟨.ref s.heap.objs.size,_,I.laid (o:=.rng 0 j) (fun b ob q=>Heap.get?_push_of_some _ q) (Nat.le_refl _) ⟨_,_,_,Heap.get?_push_size _ rfl⟩,rfl,q _ I.fresh⟩
theorem call_listRng (hc:X.calm=true):L2.CallR X (.type "list") (fun xs H Q=>∃ (q:Addr) (j:Int),xs=[.ref q]∧H q=some (.rng 0 j)∧-(lim:Int)≤j∧j≤lim∧∀ l,H l=none→Q (.ref l) (upd H l (.lst ((List.range j.toNat).map fun k=>V.int (0 + (k:Nat)))))):=by
 intro pins s σ H xs us Q I r h
 obtain ⟨q,j,rfl,hq,j0,j1,k⟩:=h
 obtain ⟨u,rfl,ru⟩:=r.one
 cases ru
 obtain ⟨t,u,v,e⟩:=(show L2.ObjOk X.prog X.w H s.heap q (.rng 0 j) from I.hok q _ hq)
 have hl:(lim:Int)=100000:=rfl
 have hn:Builtin.Range.rangeSize 0 j 1=((j.toNat:Nat):Int):=by rw [rangeSize_one];split <;> omega
 refine call_list_range (n:=j.toNat) (I.ok.hd hc) e (small_one (by decide) (by decide) (by omega) (by omega)) hn (by omega) fun h' tk acc' c' hk hS' hacc=>?_
 have hv:Vals ((List.range j.toNat).map fun k=>V.int (0 + (k:Nat))) acc'.toList:=by
  have hlen:acc'.toList.length=j.toNat:=by rw [Array.length_toList];exact hacc.1
  have go:∀ (n:Nat) (l:List Value) (st:Nat),l.length=n→(∀ (i:Nat) (w:Value),l[i]?=some w→∃ t,w=.int (0 + ((st + i:Nat):Int)) t)→Vals ((List.range' st n).map fun k=>V.int (0 + (k:Nat))) l:=by
   intro n
   induction n with
   | zero=>intro l st hl _;rw [List.length_eq_zero_iff.mp hl];exact .nil
   | succ n ih =>
    intro l st hl hw
    cases l with
    | nil=>simp at hl
    | cons w l =>
     rw [List.range'_succ,List.map_cons]
     obtain ⟨t,e⟩:=hw 0 w rfl
     refine .cons ⟨t,by simpa using e⟩ (ih l (st + 1) (by simpa using hl) fun i w' e'=>?_)
     obtain ⟨t',e''⟩:=hw (i + 1) w' (by simpa using e')
     exact ⟨t',by rw [e''];congr 2;omega⟩
  rw [List.range_eq_range']
  refine go j.toNat acc'.toList 0 hlen fun i w e'=>?_
  obtain ⟨t,rfl⟩:=hacc.2 i w (by simpa using e')
  exact ⟨t,by rw [Int.mul_one,Nat.zero_add]⟩
 refine ⟨.ref s.heap.objs.size,_,I.laid (o:=.lst ((List.range j.toNat).map fun k=>V.int (0 + (k:Nat)))) hk (Nat.le_refl _) ?_,rfl,k _ I.fresh⟩
 refine ⟨by rw [List.length_map,List.length_range,sizeLine_eq];omega,acc'.toList,c',hv,?_⟩
 simpa using hS'
theorem po_listrange {p3 p4:Pos} (T:Bt X.mg) (ha:PD X m1 a f) (hc:X.calm=true:=by rfl) (hg:X.env.kindOf "list"=some .globalImplicit:=by kernel_rfl) (hg2:X.env.kindOf "range"=some .globalImplicit:=by kernel_rfl) (hs:nst a=true:=by rfl) :
  PDo X m (.Call (.Name "list" p) [.Call (.Name "range" p3) [a] [] p4] [] pos) (eF1 fRangeList f) :=
 PE.of (L2.pe_callTy (call_listRng hc) hg T.list (by decide +kernel) (L2.pa_cons (L2.pe_callTy call_rangeD hg2 T.range boot_range (L2.pa_cons ha.h L2.pa_nil (star_one hs)) (by decide) (by decide) (star_cons hs) rfl) L2.pa_nil (star_one rfl)) (by decide) (by decide) (star_cons rfl) rfl) fun σ H Q ⟨BF,BH,F,env,L,ds,S,e,q⟩=>by
  unfold eF1 at e
  split at e
  ·rename_i y h1
   refine ⟨BF,BH,F,env,L,y,S,h1,fun v F' H' z r1=>?_⟩
   unfold fRangeList at e
   split at e
   ·rename_i j
    split at e
    ·rename_i hj
     cases e
     refine ⟨j,by rw [rep_int r1],fun q1 hq1=>⟨q1,j,rfl,upd_same,hj.1,hj.2,fun l hl=>?_⟩⟩
     have hlq:l≠q1:=fun e=>by rw [e,upd_same] at hl;cases hl
     rw [upd_ne hlq] at hl
     have y1:=z.trans (Ext.own (o:=HO.rng 0 j) z.fh hq1)
     have hl':upd H' q1 (.rng 0 j) l=none:=by rw [upd_ne hlq];exact hl
     obtain ⟨y2,h0,h2,s⟩:=own_new (m:=m) S y1 hl' (HO.lst ((List.range j.toNat).map fun k=>V.int (0 + (k:Nat))))
     refine q l _ F' _ y2 h0 upd_same h2 ?_
     have e:rangeD 0 j.toNat=((List.range j.toNat).map fun k=>(0 + (k:Nat):Int)).map D.int:=by simp [rangeD]
     have e2:((List.range j.toNat).map fun k=>V.int (0 + (k:Nat)))=((List.range j.toNat).map fun k=>(0 + (k:Nat):Int)).map V.int:=by simp
     rw [e,e2]
     exact Reps.ints _
    ·cases e
   ·cases e
  ·cases e
theorem fRL_inv {env:Env} {d:D} (h:eF1 fRangeList f env=some d):∃ ds,d=.lst ds:=by
 unfold eF1 at h
 split at h
 ·unfold fRangeList at h
  split at h
  ·split at h
   ·cases h;exact ⟨_,rfl⟩
   ·cases h
  ·cases h
 ·cases h
theorem pd_listrange {p3 p4:Pos} (T:Bt X.mg) (ha:PD X m1 a f) (hc:X.calm=true:=by rfl) (hg:X.env.kindOf "list"=some .globalImplicit:=by kernel_rfl) (hg2:X.env.kindOf "range"=some .globalImplicit:=by kernel_rfl) (hs:nst a=true:=by rfl) :
  PD X m (.Call (.Name "list" p) [.Call (.Name "range" p3) [a] [] p4] [] pos) (eF1 fRangeList f):=(po_listrange T ha hc hg hg2 hs).d fun env d h=>fRL_inv h
theorem pd_index (hu:X.A.units + 64 < cLine) {p3:Pos} (ha:PD X m1 a f) (hb:PD X m2 b g) (hst:nst b=true:=by rfl)
  (hbase:attributeBase a "index" X.env (eval a X.env)=eval a X.env:=by rfl) (hline:(p2.endLine == p3.line)=true:=by rfl) :
  PD X m (.Call (.Attribute a "index" p2) [b] [] p3) (eF2 fIndex f g) :=
 PD.mk <| PE.of (L2.pe_bm PySem.F.plainAttrs_list PySem.F.slot_list_index PySem.F.type_list_index (mt_indexD hu) ha.r.h (L2.pa_cons hb.r.h L2.pa_nil (star_one hst)) hbase (by rw [star_few (nsts_one hst)];rfl) hline (star_cons hst) rfl) fun σ H Q ⟨BF,BH,F,env,L,d,S,e,q⟩=>by
  unfold eF2 at e
  split at e
  ·rename_i x y h1 h2
   unfold fIndex at e
   split at e
   ·rename_i ys
    split at e
    ·rename_i hd
     split at e
     ·rename_i j hj
      cases e
      refine ⟨BF,BH,F,env,L,_,S,h1,fun v F1 H1 z1 r1=>⟨?_,BF,BH,F1,env,L,y,S.ext z1,h2,fun w F2 H2 z2 r2=>⟨y,w,ys,j,rfl,Rep.mono z2.hh _ _ r1,r2,hd,hj,q _ F2 H2 (z1.trans z2) (by simp [Rep])⟩⟩⟩
      have r1':=r1
      simp only [Rep,hpM] at r1'
      obtain ⟨p,vs,rfl,hs,_⟩:=r1'
      exact .inl ⟨rfl,vs,hs⟩
     ·cases e
    ·cases e
   ·cases e
  ·cases e
end
end PV
set_option linter.all false
set_option Elab.async false
set_option maxRecDepth 100000
set_option maxHeartbeats 4000000
namespace PV
open PySem
def Ris (xs:Array Nat):Prop:=∀ i j (hi:i < xs.size) (hj:j < xs.size),i < j→xs[i] < xs[j]
theorem below_go {xs:Array Nat} {j:Nat} (hr:Ris xs):∀ (fuel lo hi:Nat),hi≤xs.size→hi - lo < 2 ^ fuel→lo≤hi →
  (∀ i (h:i < xs.size),i < lo→xs[i] < j)→(∀ i (h:i < xs.size),hi≤i→j≤xs[i]) →
  SetTable.below.go xs j fuel lo hi≤xs.size∧(∀ i (h:i < xs.size),i < SetTable.below.go xs j fuel lo hi→xs[i] < j)∧(∀ i (h:i < xs.size),SetTable.below.go xs j fuel lo hi≤i→j≤xs[i]):=by
 intro fuel
 induction fuel with
 | zero =>
  intro lo hi h1 h2 h3 a b
  have:hi=lo:=by simp at h2;omega
  subst this
  unfold SetTable.below.go
  exact ⟨h1,a,b⟩
 | succ fuel ih =>
  intro lo hi h1 h2 h3 a b
  unfold SetTable.below.go
  by_cases hlt:lo < hi
  ·rw [if_pos hlt]
   have hm:(lo + hi) / 2 < xs.size:=by omega
   have e:xs.getD ((lo + hi) / 2) j=xs[(lo + hi) / 2]:=by simp [Array.getD,hm]
   dsimp only
   rw [e]
   have hp:2 ^ (fuel + 1)=2 ^ fuel * 2:=Nat.pow_succ ..
   by_cases hc:xs[(lo + hi) / 2] < j
   ·rw [if_pos hc]
    refine ih _ hi h1 (by omega) (by omega) (fun i h hi'=>?_) b
    rcases Nat.lt_or_ge i ((lo + hi) / 2) with h5 | h5
    ·exact Nat.lt_trans (hr i _ h hm h5) hc
    ·have:i=(lo + hi) / 2:=by omega
     subst this;exact hc
   ·rw [if_neg hc]
    refine ih lo _ (by omega) (by omega) (by omega) a (fun i h hi'=>?_)
    rcases Nat.lt_or_ge ((lo + hi) / 2) i with h5 | h5
    ·have:=hr _ i hm h h5;omega
    ·have:i=(lo + hi) / 2:=by omega
     subst this;omega
  ·rw [if_neg hlt]
   have:lo=hi:=by omega
   subst this
   exact ⟨h1,a,b⟩
theorem below_ok {xs:Array Nat} (hr:Ris xs) (j:Nat):SetTable.below xs j≤xs.size∧(∀ i (h:i < xs.size),i < SetTable.below xs j→xs[i] < j)∧(∀ i (h:i < xs.size),SetTable.below xs j≤i→j≤xs[i]):=by
 unfold SetTable.below
 refine below_go hr xs.size 0 xs.size (Nat.le_refl _) ?_ (Nat.zero_le _) (fun i h h'=>by omega) (fun i h h'=>by omega)
 have:=Nat.lt_two_pow_self (n:=xs.size)
 omega
theorem below_next {xs:Array Nat} (hr:Ris xs) {k:Nat} (hk:k < xs.size):SetTable.below xs (xs[k] + 1)=k + 1:=by
 obtain ⟨h1,h2,h3⟩:=below_ok hr (xs[k] + 1)
 generalize SetTable.below xs (xs[k] + 1)=p at h1 h2 h3
 rcases Nat.lt_trichotomy p (k + 1) with h | h | h
 ·have:=h3 k hk (by omega);omega
 ·exact h
 ·have h4:=h2 (k + 1) (by omega) h
  have:=hr k (k + 1) hk (by omega) (by omega)
  omega
theorem below_zero {xs:Array Nat} (hr:Ris xs):SetTable.below xs 0=0:=by
 obtain ⟨h1,h2,h3⟩:=below_ok hr 0
 generalize SetTable.below xs 0=p at h1 h2 h3
 rcases Nat.eq_zero_or_pos p with h | h
 ·exact h
 ·have:=h2 0 (by omega) h;omega
theorem ris_insert {xs:Array Nat} (hr:Ris xs) {j:Nat} (hj:xs[SetTable.below xs j]?≠some j):Ris (SetTable.insertAt xs (SetTable.below xs j) j):=by
 obtain ⟨h1,h2,h3⟩:=below_ok hr j
 generalize SetTable.below xs j=p at h1 h2 h3 hj
 have h4:∀ i (h:i < xs.size),p≤i→j < xs[i]:=fun i h hp=>by
  rcases Nat.lt_or_ge p i with h5 | h5
  ·have h6:=h3 p (by omega) (Nat.le_refl _)
   have:=hr p i (by omega) h h5
   omega
  ·have e:i=p:=by omega
   subst e
   have:=h3 i h (Nat.le_refl _)
   rw [Array.getElem?_eq_getElem h] at hj
   have:xs[i]≠j:=fun e=>hj (by rw [e])
   omega
 have sz:(SetTable.insertAt xs p j).size=xs.size + 1:=by unfold SetTable.insertAt;simp;omega
 have ent:∀ i (h:i < xs.size + 1),(SetTable.insertAt xs p j)[i]'(by rw [sz];exact h)=if hh:i < p then xs[i] else if h':i=p then j else xs[i - 1]:=by
  intro i h
  unfold SetTable.insertAt
  simp only [Array.getElem_append,Array.size_push,Array.size_extract,Array.getElem_push,Array.getElem_extract]
  split
  ·rename_i ha
   split
   ·rename_i hb
    rw [dif_pos (by omega)]
    simp
   ·rename_i hb
    rw [dif_neg (by omega),dif_pos (by omega)]
  ·rename_i ha
   rw [dif_neg (by omega),dif_neg (by omega)]
   congr 1
   omega
 intro a b ha hb hab
 rw [sz] at ha hb
 rw [ent a ha,ent b hb]
 by_cases a1:a < p
 ·rw [dif_pos a1]
  by_cases b1:b < p
  ·rw [dif_pos b1];exact hr a b (by omega) (by omega) hab
  ·rw [dif_neg b1]
   by_cases b2:b=p
   ·rw [dif_pos b2];exact h2 a (by omega) a1
   ·rw [dif_neg b2];exact hr a (b - 1) (by omega) (by omega) (by omega)
 ·rw [dif_neg a1,dif_neg (show ¬ b < p by omega),dif_neg (show ¬ b=p by omega)]
  by_cases a2:a=p
  ·rw [dif_pos a2];exact h4 (b - 1) (by omega) (by omega)
  ·rw [dif_neg a2];exact hr (a - 1) (b - 1) (by omega) (by omega) (by omega)
theorem slot_out {t:SetTable} {j:Nat} (h:t.slot j=.empty∨t.slot j=.dummy):t.place[SetTable.below t.place j]?≠some j:=fun e=>by
 unfold SetTable.slot at h
 dsimp only at h
 rw [e] at h
 simp at h
theorem probe_out {t:SetTable} {hashAt:Nat→Int} {h:Int}:∀ (fuel:Nat) (p:SetTable.Probe) (j:Nat) (d:Option Nat),(∀ x,p.dummy=some x→t.slot x=.dummy)→SetTable.probe.go t hashAt h fuel p=some (.empty j d) →
  t.place[SetTable.below t.place (d.getD j)]?≠some (d.getD j):=by
 intro fuel
 induction fuel with
 | zero=>intro p j d hd e;unfold SetTable.probe.go at e;cases e
 | succ fuel ih =>
  intro p j d hd e
  unfold SetTable.probe.go at e
  have adv:∀ q:SetTable.Probe,(t.advance q).dummy=q.dummy:=fun q=>by unfold SetTable.advance;split <;> rfl
  split at e
  ·rename_i hs
   injection e with e
   injection e with e1 e2
   subst e1;subst e2
   cases hq:p.dummy with
   | none=>exact slot_out (.inl hs)
   | some x=>exact slot_out (.inr (hd x hq))
  ·rename_i hs
   refine ih _ _ _ (fun x hx=>?_) e
   rw [adv] at hx
   injection hx with hx
   subst hx;exact hs
  ·split at e
   ·injection e with e;cases e
   ·refine ih _ _ _ (fun x hx=>?_) e
    rw [adv] at hx
    exact hd x hx
theorem free_out {t:SetTable} {h:Int} {j:Nat} {b:Bool} (e:t.freeSlot h=some (j,b)):t.place[SetTable.below t.place j]?≠some j:=by
 unfold SetTable.freeSlot at e
 split at e
 ·rename_i j' d hp
  injection e with e
  injection e with e1 e2
  subst e1
  exact probe_out _ _ _ _ (fun x hx=>by simp [SetTable.probeStart] at hx) hp
 ·cases e
structure TabOk (led:Bool) (t:SetTable):Prop where
 led:t.led=led
 ris:t.plain=true→Ris t.place
theorem tabOk_fresh (led:Bool) (a b:Nat):TabOk led (.fresh a b led):=⟨rfl,fun _ i j hi hj _=>by simp [SetTable.fresh] at hi⟩
theorem TabOk.stand {led:Bool} {t:SetTable} (h:TabOk led t) (n:Nat):TabOk led (t.standIn n):=⟨h.led,fun e=>by simp [SetTable.standIn] at e⟩
theorem TabOk.lay {led:Bool} {t:SetTable} (h:TabOk led t) (es:Array (Int × Value)) (k:Int) (x:Value):TabOk led (layNew t es k x).2.1:=by
 unfold layNew
 split
 ·rename_i slot wd he
  have:TabOk led (t.put slot).1:=⟨h.led,fun e=>ris_insert (h.ris e) (free_out he)⟩
  dsimp only
  unfold SetTable.orStandIn
  split
  ·exact this
  ·exact this.stand _
 ·exact h.stand _
theorem ris_pair {l:List Nat} (h:l.Pairwise (· < ·)):Ris l.toArray:=fun i j hi hj hij=>by
 simp only [List.size_toArray] at hi hj
 simp only [List.getElem_toArray]
 exact List.pairwise_iff_getElem.mp h i j hi hj hij
theorem TabOk.relay {led:Bool} {t:SetTable} (h:TabOk led t) (es:Array (Int × Value)) (n:Nat):TabOk led (relayAll t es n).2.1:=by
 unfold relayAll
 split
 ·rename_i t' order he
  dsimp only
  split
  ·unfold SetTable.relaid SetTable.laid at he
   cases ho:SetTable.layClean (SetTable.sizeAbove n - 1) (es.map (·.1)) with
   | none=>rw [ho] at he;cases he
   | some owner =>
    rw [ho] at he
    injection he with he
    injection he with h1 h2
    subst h1
    refine ⟨h.led,fun _=>ris_pair ?_⟩
    rw [List.map_filterMap]
    refine (List.pairwise_lt_range (n:=SetTable.sizeAbove n - 1 + 1)).filterMap _ fun a a' haa b hb b' hb'=>?_
    simp only [Option.map_map,Option.mem_def,Option.map_eq_some_iff] at hb hb'
    obtain ⟨_,_,rfl⟩:=hb
    obtain ⟨_,_,rfl⟩:=hb'
    exact haa
  ·exact h.stand _
 ·exact h.stand _
end PV
set_option linter.all false
set_option Elab.async false
set_option maxRecDepth 100000
set_option maxHeartbeats 4000000
namespace PV
open PySem PyProof.Rows
def valI:Value→Int
 | .int i _=>i
 | _=>0
def isI:Value→Prop
 | .int _ _=>True
 | _=>False
theorem ints_iff {vs:List Value} {ns:List Int}:IntsAre vs ns↔(∀ v ∈ vs,isI v)∧ns=vs.map valI:=by
 constructor
 ·intro h
  induction h with
  | nil=>simp
  | cons n t _ ih=>exact ⟨fun v hv=>(List.mem_cons.mp hv).elim (fun e=>e ▸ trivial) (ih.1 v),by simp [valI,ih.2]⟩
 ·rintro ⟨h,rfl⟩
  induction vs with
  | nil=>exact .nil
  | cons v vs ih =>
   have h1:=h v List.mem_cons_self
   cases v with
   | int i t=>exact .cons i t (ih fun v hv=>h v (List.mem_cons_of_mem _ hv))
   | _=>exact h1.elim
theorem ints_perm {vs vs':List Value} {ns:List Int} (p:vs'.Perm vs) (h:IntsAre vs ns):∃ ns',IntsAre vs' ns'∧ns'.Perm ns:=by
 rw [ints_iff] at h
 exact ⟨vs'.map valI,ints_iff.mpr ⟨fun v hv=>h.1 v (p.mem_iff.mp hv),rfl⟩,h.2 ▸ p.map _⟩
theorem ints_mem {vs:List Value} {ns:List Int} (h:IntsAre vs ns) {k:Int}:k ∈ ns↔∃ v ∈ vs,Value.isInt k v=true:=by
 rw [ints_iff] at h
 rw [h.2,List.mem_map]
 constructor
 ·rintro ⟨v,hv,e⟩
  have:=h.1 v hv
  cases v with
  | int i t=>exact ⟨_,hv,by simp [valI] at e;simp [Value.isInt,e]⟩
  | _=>exact this.elim
 ·rintro ⟨v,hv,e⟩
  obtain ⟨t,rfl⟩:=Value.isInt_shape e
  exact ⟨_,hv,rfl⟩
section
variable {prog:Program} {w:World} {A:Around} {E:Value→Shared→Prop} {s:Shared}
structure SetO (prog:Program) (w:World) (led:Bool) (ks:List Int) (o:Obj) (es:Array (Int × Value)) (ep:Nat) (t:SetTable):Prop where
 ex:o.ExactSet
 dat:o.data=.set es ep t
 el:ElemsOf (intKind prog w) es.toList
 ks:∃ js,IntsAre (es.toList.map (·.2)) js∧js.Perm ks
 few:es.size < scanBound
 fit:t.fits es.size=true
 ok:TabOk led t
def SetX (prog:Program) (w:World) (h:Heap) (a:Addr) (led:Bool) (ks:List Int):Prop:=∃ o es ep t,h.get? a=some o∧SetO prog w led ks o es ep t
theorem SetO.len {led:Bool} {ks:List Int} {o:Obj} {es:Array (Int × Value)} {ep:Nat} {t:SetTable} (h:SetO prog w led ks o es ep t):es.size=ks.length:=by
 obtain ⟨js,h1,h2⟩:=h.ks
 have:=(ints_iff.mp h1).2
 rw [← h2.length_eq,this];simp
theorem SetO.mem {led:Bool} {ks:List Int} {o:Obj} {es:Array (Int × Value)} {ep:Nat} {t:SetTable} (h:SetO prog w led ks o es ep t) {k:Int}:k ∈ ks↔∃ e ∈ es.toList,(intKind prog w).is k e.2=true:=by
 obtain ⟨js,h1,h2⟩:=h.ks
 rw [← h2.mem_iff,ints_mem h1]
 constructor
 ·rintro ⟨v,hv,e⟩
  obtain ⟨p,hp,rfl⟩:=List.mem_map.mp hv
  exact ⟨p,hp,e⟩
 ·rintro ⟨p,hp,e⟩
  exact ⟨p.2,List.mem_map.mpr ⟨p,hp,rfl⟩,e⟩
theorem store_x {a:Addr} {led:Bool} {ks ks':List Int} {o:Obj} {es es':Array (Int × Value)} {ep:Nat} {t t':SetTable} {Q:Unit→Shared→Prop} (ho:s.heap.get? a=some o) (h:SetO prog w led ks o es ep t)
  (el:ElemsOf (intKind prog w) es'.toList) (hk:∃ js,IntsAre (es'.toList.map (·.2)) js∧js.Perm ks') (few:es'.size < scanBound) (fit:t'.fits es'.size=true) (ok:TabOk led t')
  (k:∀ h' o',Heap.SameBut a s.heap h'→h'.get? a=some o'→SetO prog w led ks' o' es' (ep + 1) t'→Q () { s with heap:=h' }):wpAny (model prog w) A (storeSet a es' t') Q E s:=by
 refine wpAny_storeSet_of ho h.dat ?_ (fits_of_scanBound few)
 have hg:(s.heap.update a (Obj.putSet es' t')).get? a=some { o with data:=.set es' (ep + 1) t' }:=by
  have:=Heap.get?_update_self (Obj.putSet es' t') ho (by rw [putSet_of es' t' h.dat];rfl)
  rw [putSet_of es' t' h.dat] at this
  exact this
 exact k _ _ (Heap.SameBut.update s.heap a _) hg ⟨h.ex,rfl,el,hk,few,fit,ok⟩
theorem add_x {a : Addr} {led : Bool} {ks : List Int} {k : Int} {tk : Tok} {Q : Bool → Shared → Prop} (hS : SetX prog w s.heap a led ks) (room : ks.length + 1 < scanBound)
    (h : ∀ h' b, Heap.SameBut a s.heap h' → SetX prog w h' a led (addv ks k) → Q b { s with heap := h' }) : wpAny (model prog w) A (setAddHashed a (.int k tk) ((intKind prog w).hash k)) Q E s := by
  obtain ⟨o, es, ep, t, ho, S⟩ := hS
  have hkey : (intKind prog w).is k (.int k tk) = true := intKind_is _ _ _ _
  have same : s = { s with heap := s.heap } := by cases s; rfl
  unfold setAddHashed setAddHashedIn
  refine wpAny_holding (wpAny_bind (wpAny_setState_of ho S.dat S.fit ?_))
  dsimp only
  rw [byScan_of (x := .int k tk) rfl S.few S.el]
  simp only [↓reduceIte]
  unfold setAddByScan
  refine wpAny_bind (wpAny_bind (wpAny_rule (wpAny_bind (wpAny_setScan_of hkey ho S.dat S.fit S.el ?_))))
  cases hr : List.findIdx? (fun e => (intKind prog w).is k e.2) es.toList with
  | some j =>
    obtain ⟨hj, hpj, _⟩ := List.findIdx?_eq_some_iff_getElem.mp hr
    have hm : k ∈ ks := S.mem.mpr ⟨_, List.getElem_mem hj, hpj⟩
    refine wpAny_pure (wpAny_pure ?_)
    rw [same]
    exact h s.heap _ (Heap.SameBut.refl a s.heap) ⟨o, es, ep, t, ho, by unfold addv; rw [if_pos hm]; exact S⟩
  | none =>
    have hm : k ∉ ks := fun hm => by
      obtain ⟨e, he, hp⟩ := S.mem.mp hm
      have := List.findIdx?_eq_none_iff.mp hr e he
      rw [hp] at this; cases this
    dsimp only
    have p1 := layNew_perm t es ((intKind prog w).hash k) (.int k tk)
    have f1 := layNew_fits t es ((intKind prog w).hash k) (.int k tk)
    have o1 := S.ok.lay es ((intKind prog w).hash k) (.int k tk)
    generalize layNew t es ((intKind prog w).hash k) (.int k tk) = Z at p1 f1 o1 ⊢
    obtain ⟨es1, t1, wd, gv⟩ := Z
    dsimp only at p1 f1 o1 ⊢
    rw [Array.toList_push] at p1
    have el1 : ElemsOf (intKind prog w) es1.toList := (S.el.push hkey rfl).perm p1
    have k1 : ∃ js, IntsAre (es1.toList.map (·.2)) js ∧ js.Perm (addv ks k) := by
      obtain ⟨js, j1, j2⟩ := S.ks
      have q1 : IntsAre ((es.toList ++ [((intKind prog w).hash k, Value.int k tk)]).map (·.2)) (js ++ [k]) := by
        rw [ints_iff] at j1 ⊢
        refine ⟨fun v hv => ?_, by rw [j1.2]; simp [valI]⟩
        rw [List.map_append, List.mem_append] at hv
        rcases hv with hv | hv
        · exact j1.1 v hv
        · simp at hv; subst hv; trivial
      obtain ⟨js', r1, r2⟩ := ints_perm (p1.map (·.2)) q1
      refine ⟨js', r1, r2.trans ?_⟩
      unfold addv; rw [if_neg hm]
      exact j2.append_right _
    have sz1 : es1.size = es.size + 1 := by rw [← Array.length_toList, p1.length_eq, List.length_append, Array.length_toList]; rfl
    have few1 : es1.size < scanBound := by rw [sz1, S.len]; exact room
    have gw : ∀ (b : Bool) {s₁ : Shared} {Q' : Unit → Shared → Prop}, Q' () s₁ → wpAny (model prog w) A (match b with | true => rule "set.scan.the-table-gave-way" | false => pure ()) Q' E s₁ :=
      fun b _ _ hq => by cases b <;> first | exact wpAny_pure hq | exact wpAny_rule hq
    refine wpAny_bind (gw _ ?_)
    have last : ∀ t2 : SetTable, t2.fits es1.size = true → TabOk led t2 → ∀ wd : Bool, wpAny (model prog w) A (do
        storeSet a es1 t2
        if (!wd && t2.tooFull) = true then do
            (match (relayAll t2 es1 (SetTable.grown es1.size)).2.2 with | true => rule "set.scan.the-table-gave-way" | false => pure ())
            storeSet a (relayAll t2 es1 (SetTable.grown es1.size)).1 (relayAll t2 es1 (SetTable.grown es1.size)).2.1
            pure (some true)
          else pure (some true)) (fun r s' => wpAny (model prog w) A (match r with | some added => pure added | none => setAddHashedIn a (.int k tk) ((intKind prog w).hash k) 99999) Q E s') E s := by
      intro t2 f2 o2 wd
      refine wpAny_bind (store_x ho S el1 k1 few1 f2 o2 fun h' o' sb g' S' => ?_)
      split
      · have p2 := relayAll_perm t2 es1 (SetTable.grown es1.size)
        have f3 := relayAll_fits t2 es1 (SetTable.grown es1.size)
        have o3 := o2.relay es1 (SetTable.grown es1.size)
        generalize relayAll t2 es1 (SetTable.grown es1.size) = Z at p2 f3 o3 ⊢
        obtain ⟨es2, t3, gv2⟩ := Z
        dsimp only at p2 f3 o3 ⊢
        have sz2 : es2.size = es1.size := by rw [← Array.length_toList, p2.length_eq, Array.length_toList]
        refine wpAny_bind (gw _ ?_)
        refine wpAny_bind (store_x (ks' := addv ks k) g' S' (el1.perm p2) ?_ (by rw [sz2]; exact few1) f3 o3 fun h2 o2 sb2 g2 S2 => ?_)
        · obtain ⟨js, j1, j2⟩ := k1
          obtain ⟨js', r1, r2⟩ := ints_perm (p2.map (·.2)) j1
          exact ⟨js', r1, r2.trans j2⟩
        · exact wpAny_pure (wpAny_pure (h _ _ (sb.trans sb2) ⟨_, _, _, _, g2, S2⟩))
      · exact wpAny_pure (wpAny_pure (h _ _ sb ⟨_, _, _, _, g', S'⟩))
    split
    · refine wpAny_bind ?_
      rw [hashByValue_scannable 8 (x := .int k tk) rfl]
      refine wpAny_pure ?_
      exact last _ (by simp only [plainKind, ↓reduceIte]; exact f1) (by simp only [plainKind, ↓reduceIte]; exact o1) wd
    · refine wpAny_bind (wpAny_pure ?_)
      simp only [↓reduceIte]
      exact last _ f1 o1 wd
end
end PV
set_option linter.all false
set_option Elab.async false
set_option maxRecDepth 100000
set_option maxHeartbeats 4000000
namespace PV
open PySem PyProof.Rows
theorem slot_sitN:Slot "set_iterator" "__next__" "set_iterator.__next__":=.of (owner:="set_iterator") (n:="__next__") (by rw [typeLookup_type,builtinLookup_eq_fast];kernel_rfl) (by decide +kernel) (by decide +kernel) (by decide +kernel) (by first | exact .inl (by decide +kernel) | exact .inr (by decide +kernel)) (by rw [isSubtype_type];kernel_rfl)
theorem slot_sitI:Slot "set_iterator" "__iter__" "set_iterator.__iter__":=.of (owner:="set_iterator") (n:="__iter__") (by rw [typeLookup_type,builtinLookup_eq_fast];kernel_rfl) (by decide +kernel) (by decide +kernel) (by decide +kernel) (by first | exact .inl (by decide +kernel) | exact .inr (by decide +kernel)) (by rw [isSubtype_type];kernel_rfl)
theorem entry_sitN:entryFor table "set_iterator.__next__"=some Builtin.«set_iterator.__next__»:=entryFor_of_tree (by kernel_rfl)
theorem entry_sitI:entryFor table "set_iterator.__iter__"=some Builtin.«dict_keyiterator.__iter__»:=entryFor_alias (id':="dict_keyiterator.__iter__") (by kernel_rfl) rfl (by decide +kernel) (by kernel_rfl)
theorem args_sitN (a:Value):argsOk "set_iterator.__next__" ⟨[a],[]⟩:=by unfold argsOk;kernel_rfl
theorem args_sitI (a:Value):argsOk "set_iterator.__iter__" ⟨[a],[]⟩:=by unfold argsOk;kernel_rfl
theorem entry_setI:entryFor table "set.__iter__"=some Builtin.«frozenset.__iter__»:=entryFor_alias (id':="frozenset.__iter__") (by kernel_rfl) rfl (by decide +kernel) (by kernel_rfl)
theorem perm_out {α:Type}:∀ (l:List α) (i:Nat) (h:i < l.length),(l[i]::l.eraseIdx i).Perm l
 | [],i,h=>by simp at h
 | x::l,0,_=>by simp
 | x::l,i + 1,h=>by
  have h':i < l.length:=by simpa using h
  simp only [List.getElem_cons_succ,List.eraseIdx_cons_succ]
  exact (List.Perm.swap _ _ _).trans ((perm_out l i h').cons _)
def byT (w:World):Bool:=w.params.followText "set-order"
theorem wpAny_chs {M:Model} {A:Around} {E:Value→Shared→Prop} {s:Shared} {src:Source} {n:Nat} {Q:Nat→Shared→Prop} (hn:n≠0) (h:∀ i dr,i < n→Q i { s with drawn:=dr }):wpAny M A (choose src n) Q E s :=
 fun _ _ _=>⟨hn,h _ _ (Nat.mod_lt _ (by omega))⟩
theorem drawO {α:Type} {M:Model} {A:Around} {E:Value→Shared→Prop}:∀ (n:Nat) (xs:List α) (s:Shared) (Q:List α→Shared→Prop),n=xs.length→(∀ ys dr,ys.Perm xs→Q ys { s with drawn:=dr })→wpAny M A (drawOrder n xs) Q E s:=by
 intro n
 induction n with
 | zero =>
  intro xs s Q hn h
  have:xs=[]:=List.length_eq_zero_iff.mp hn.symm
  subst this
  unfold drawOrder
  exact wpAny_pure (h [] s.drawn (.refl _))
 | succ n ih =>
  intro xs s Q hn h
  cases xs with
  | nil=>cases hn
  | cons x xs =>
   unfold drawOrder
   refine wpAny_bind (wpAny_chs (by simp) fun i dr hi=>?_)
   rw [List.getElem?_eq_getElem hi]
   refine wpAny_bind (ih _ _ _ (by rw [List.length_eraseIdx,if_pos hi];omega) fun ys dr' hp=>wpAny_pure (h _ _ ?_))
   exact (hp.cons _).trans (perm_out _ _ hi)
theorem pick_go {α:Type} (next:Nat→Nat):∀ (fuel k:Nat) (left:List α) (out:Array α),fuel=left.length→(pickOrder.go next fuel k left out).toList.Perm (out.toList++left):=by
 intro fuel
 induction fuel with
 | zero =>
  intro k left out h
  have:left=[]:=List.length_eq_zero_iff.mp h.symm
  subst this
  unfold pickOrder.go
  simp
 | succ fuel ih =>
  intro k left out h
  unfold pickOrder.go
  have hl:next k % left.length < left.length:=Nat.mod_lt _ (by omega)
  rw [List.getElem?_eq_getElem hl]
  refine (ih _ _ _ (by rw [List.length_eraseIdx,if_pos hl];omega)).trans ?_
  rw [Array.toList_push,List.append_assoc]
  exact List.Perm.append_left _ (perm_out _ _ hl)
theorem pick_perm {α:Type} (next:Nat→Nat) (xs:Array α):(pickOrder next xs).toList.Perm xs.toList:=by
 unfold pickOrder
 simpa using pick_go next xs.size 0 xs.toList #[] (by simp)
inductive Wk (w : World) (h : Heap) (a : Addr) (es : Array (Int × Value)) (ep : Nat) (t : SetTable) : List Value → (Nat → Value) → List Addr → Prop
  | text (hb : byT w = true) : Wk w h a es ep t ((pickOrder (w.params.setOrder a ep) es).toList.map (·.2)) (fun _ => rawInt 0) []
  | plain (hb : byT w = false) (hd : (!t.plain && decide (es.size > 1)) = false) (hl : t.led = true) (hr : Ris t.place) : Wk w h a es ep t (es.toList.map (·.2)) (fun i => rawInt (((if i = 0 then 0 else t.place.getD (i - 1) 0 + 1) : Nat) : Int)) []
  | drawn (hb : byT w = false) (p : Addr) (c : Nat) (pl : List Nat) (hp : pl.Perm (List.range es.size)) (o : Obj) (ho : h.get? p = some o) (hd : o.data = .seq (pl.map fun (j : Nat) => rawInt j).toArray c) :
      Wk w h a es ep t (pl.map fun j => (es.getD j (0, .none)).2) (fun _ => .ref p) [p]
theorem Wk.perm {w:World} {h:Heap} {a:Addr} {es:Array (Int × Value)} {ep:Nat} {t:SetTable} {ord:List Value} {fst:Nat→Value} {ps:List Addr} (k:Wk w h a es ep t ord fst ps):ord.Perm (es.toList.map (·.2)):=by
 cases k with
 | text hb=>exact (pick_perm _ _).map _
 | plain hb hd hl hr=>exact .refl _
 | drawn hb p c pl hp o ho hd =>
  refine (hp.map _).trans ?_
  have:(List.range es.size).map (fun j=>(es.getD j (0,.none)).2)=es.toList.map (·.2):=by
   apply List.ext_getElem
   ·simp
   ·intro i h1 h2
    simp at h1
    simp [Array.getD,h1]
  rw [this]
theorem Wk.mono {w:World} {h h':Heap} {a:Addr} {es:Array (Int × Value)} {ep:Nat} {t:SetTable} {ord:List Value} {fst:Nat→Value} {ps:List Addr} (k:Wk w h a es ep t ord fst ps) (hk:∀ b ∈ ps,∀ o,h.get? b=some o→h'.get? b=some o):Wk w h' a es ep t ord fst ps:=by
 cases k with
 | text hb=>exact .text hb
 | plain hb hd hl hr=>exact .plain hb hd hl hr
 | drawn hb p c pl hp o ho hd=>exact .drawn hb p c pl hp o (hk p (by simp) o ho) hd
def SIt (h:Heap) (I a:Addr) (f:Value) (i n ep:Nat):Prop:=∃ o,h.get? I=some o∧o.cls=.type "set_iterator"∧o.data=.fields #[f,rawInt (i:Nat),.ref a,rawInt (n:Nat),rawInt (ep:Nat)]
theorem SIt.ty {s:Shared} {I a:Addr} {f:Value} {i n ep:Nat} (h:SIt s.heap I a f i n ep):s.TypeIs (.ref I) "set_iterator":=let ⟨o,ho,hc,_⟩:=h;⟨o,ho,hc⟩
section
variable {prog:Program} {w:World} {A:Around} {E:Value→Shared→Prop} {s:Shared}
theorem Wk.next {a:Addr} {es:Array (Int × Value)} {ep:Nat} {t:SetTable} {ord:List Value} {o:Obj} {i:Nat} {zi:Nat}
  (ho:s.heap.get? a=some o) (hd:o.data=.set es ep t) (hf:t.fits es.size=true) {Q:Option (Value × Nat)→Shared→Prop} (fst:Nat→Value) (k:Wk w s.heap a es ep t ord fst []) (hz:fst i=rawInt (zi:Nat)) (hi:i≤es.size)
  (h:∀ zn:Nat,(i < es.size→rawInt zn=fst (i + 1))→Q (ord[i]?.map fun v=>(v,zn)) s):wpAny (model prog w) A (setNext a zi i ep) Q E s:=by
 have hfit:t.place.size=es.size:=by simp only [SetTable.fits,Bool.and_eq_true,beq_iff_eq] at hf;exact hf.1
 unfold setNext
 refine wpAny_bind (wpAny_setState_of ho hd hf ?_)
 dsimp only
 cases k with
 | text hb =>
  refine wpAny_bind (m:=setsByText) (wpAny_bind (wpAny_askSetting (wpAny_pure ?_)))
  rw [if_pos (show (model prog w).w.params.followText "set-order"=true from hb)]
  rw [if_neg (by simp)]
  unfold setWalk
  refine wpAny_bind (wpAny_bind (wpAny_setState_of ho hd hf ?_))
  dsimp only
  refine wpAny_bind (m:=setsByText) (wpAny_bind (wpAny_askSetting (wpAny_pure ?_)))
  rw [if_pos (show (model prog w).w.params.followText "set-order"=true from hb)]
  refine wpAny_bind (wpAny_askSetting (wpAny_pure (wpAny_pure ?_)))
  have:=h zi fun _=>hz.symm
  rw [List.getElem?_map] at this
  show Q (Option.map (fun e=>(e.snd,zi)) (pickOrder (w.params.setOrder a ep) es)[i]?) s
  simpa [Option.map_map,Function.comp_def] using this
 | plain hb hdr hl hr =>
  refine wpAny_bind (m:=setsByText) (wpAny_bind (wpAny_askSetting (wpAny_pure ?_)))
  rw [if_neg (show ¬ (model prog w).w.params.followText "set-order"=true from by rw [show (model prog w).w.params.followText "set-order"=false from hb];simp)]
  show wpAny _ _ (if (!t.plain && decide (es.size > 1))=true then _ else _) _ _ _
  rw [if_neg (by rw [hdr];simp)]
  refine wpAny_bind (m:=_) (show wpAny _ _ (if (!t.led && !es.isEmpty)=true then _ else _) _ _ _ from ?_)
  rw [if_neg (by rw [hl];simp)]
  refine wpAny_pure ?_
  have hz':zi=if i=0 then 0 else t.place.getD (i - 1) 0 + 1:=by
   have:((if i=0 then 0 else t.place.getD (i - 1) 0 + 1:Nat):Int)=zi:=by simpa [rawInt] using hz
   omega
  have hbl:SetTable.below t.place zi=i:=by
   rw [hz']
   by_cases h0:i=0
   ·subst h0;simpa using below_zero hr
   ·have hlt:i - 1 < t.place.size:=by omega
    rw [if_neg h0,show t.place.getD (i - 1) 0=t.place[i - 1] by simp [Array.getD,hlt],below_next hr hlt]
    omega
  rw [hbl]
  rcases Nat.lt_or_ge i es.size with hlt | hge
  ·have hlt':i < t.place.size:=by omega
   rw [Array.getElem?_eq_getElem hlt,Array.getElem?_eq_getElem hlt']
   have:=h (t.place[i] + 1) fun _=>by simp [rawInt,Array.getD,hlt']
   rw [List.getElem?_map,List.getElem?_eq_getElem (by simpa using hlt)] at this
   exact wpAny_pure (by simpa using this)
  ·rw [Array.getElem?_eq_none hge]
   have:=h 0 fun hh=>by omega
   rw [List.getElem?_eq_none (by simpa using hge)] at this
   exact wpAny_pure (by simpa using this)
end
end PV
set_option linter.all false
set_option Elab.async false
set_option maxRecDepth 100000
set_option maxHeartbeats 4000000
namespace PV
open PySem PyProof.Rows
section
variable {prog:Program} {w:World} {A:Around} {E:Value→Shared→Prop} {s:Shared}
theorem fld_upd {h:Heap} {I a:Addr} {f:Value} {i n ep:Nat} (x:SIt h I a f i n ep) (j:Nat) (v:Value) {f':Value} {i':Nat} (e:(#[f,rawInt (i:Nat),.ref a,rawInt (n:Nat),rawInt (ep:Nat)]:Array Value).setIfInBounds j v=#[f',rawInt (i':Nat),.ref a,rawInt (n:Nat),rawInt (ep:Nat)]) :
  SIt (h.update I (Obj.mapFields (·.setIfInBounds j v))) I a f' i' n ep:=by
 obtain ⟨o,ho,hc,hd⟩:=x
 exact ⟨_,Heap.get?_update_self _ ho (Obj.isFreed_of_fields (Obj.data_mapFields hd _)),(Obj.cls_mapFields ..).trans hc,by rw [Obj.data_mapFields hd,e]⟩
theorem sit_item {I a : Addr} {es : Array (Int × Value)} {ep : Nat} {t : SetTable} {ord : List Value} {fst : Nat → Value} {ps : List Addr} {o : Obj} {i : Nat} {Q : Option Value → Shared → Prop}
    (hit : SIt s.heap I a (fst i) i es.size ep) (ho : s.heap.get? a = some o) (hd : o.data = .set es ep t) (hf : t.fits es.size = true) (hne : a ≠ I) (k : Wk w s.heap a es ep t ord fst ps) (hps : I ∉ ps) (hi : i < es.size)
    (hQ : ∀ v h', ord[i]? = some v → SIt h' I a (fst (i + 1)) (i + 1) es.size ep → Heap.SameBut I s.heap h' → Q (some v) { s with heap := h' }) : wpAny (model prog w) A (pyNext (.ref I)) Q E s := by
  obtain ⟨oi, hoi, hci, hdi⟩ := id hit
  have hol : ord.length = es.size := by rw [k.perm.length_eq]; simp
  unfold pyNext
  refine wpAny_bind (wpAny_attempt (wpAny_callSpecial?_slot (name := Str.ofString "__next__") hit.ty slot_sitN (wpAny_call_entry slot_sitN hit.ty entry_sitN ?_ (args_sitN _))))
  show wpAny _ _ (fieldsOf (.ref I) >>= _) _ _ s
  refine wpAny_bind (wpAny_fieldsOf hoi hdi ?_)
  dsimp only
  show wpAny _ _ (setEntries a >>= _) _ _ s
  refine wpAny_bind (wpAny_setEntries_of ho hd hf ?_)
  rw [if_neg (by simp)]
  have main : ∀ (E' : Value → Shared → Prop) (zi : Nat), fst i = rawInt (zi : Nat) → Wk w s.heap a es ep t ord fst [] → wpAny (model prog w) A.in1 (do
      match ← setNext a zi i ep with
      | some (x, next) =>
        setField (.ref I) 0 (rawInt next)
        setField (.ref I) 1 (rawInt ((i : Int) + 1))
        ret x
      | none => setField (.ref I) 2 .none; raiseNew (← newExc (.type "StopIteration") [])) (fun fin s' => ∃ v, fin = .done (.ret v) ∧ wpAny (model prog w) A (pure (some v)) Q E s') E' s := by
    intro E' zi hz k0
    refine wpAny_bind (Wk.next ho hd hf fst k0 hz (by omega) fun zn hzn => ?_)
    rw [List.getElem?_eq_getElem (by omega)]
    show wpAny _ _ (setField (.ref I) 0 (rawInt zn) >>= _) _ _ s
    refine wpAny_bind (wpAny_setField hoi hdi (by simp) ?_)
    have h1 := fld_upd (i' := i) hit 0 (rawInt (zn : Nat)) (f' := rawInt (zn : Nat)) (by simp)
    obtain ⟨o1, g1, c1, d1⟩ := id h1
    refine wpAny_bind (wpAny_setField g1 d1 (by simp) (wpAny_pure ⟨_, rfl, wpAny_pure (hQ _ _ (by rw [List.getElem?_eq_getElem (by omega)]) ?_ ((Heap.SameBut.update ..).trans (Heap.SameBut.update ..)))⟩))
    rw [← hzn hi]
    exact fld_upd h1 1 _ (by simp [rawInt])
  cases k with
  | text hb => exact main _ 0 rfl (.text hb)
  | plain hb hdr hl hr => exact main _ _ rfl (.plain hb hdr hl hr)
  | drawn hb p c pl hp op hop hdp =>
    show wpAny _ _ (seqItems? (.ref p) >>= _) _ _ s
    refine wpAny_bind (wpAny_seqItems hop hdp ?_)
    have hpl : pl.length = es.size := by rw [hp.length_eq]; simp
    have hj : pl[i]'(by omega) < es.size := by have := hp.mem_iff.mp (List.getElem_mem (l := pl) (n := i) (by omega)); simpa using this
    have e1 : ((pl.map fun (j : Nat) => rawInt j).toArray)[(i : Int).toNat]? = some (.int (pl[i]'(by omega) : Nat) 0) := by simp [rawInt, hpl, hi]
    dsimp only
    rw [e1]
    dsimp only
    unfold setNextDrawn
    refine wpAny_bind (wpAny_bind (wpAny_setState_of ho hd hf ?_))
    dsimp only
    rw [if_neg (by simp)]
    rw [show ((pl[i]'(by omega) : Nat) : Int).toNat = pl[i]'(by omega) by simp, Array.getElem?_eq_getElem hj]
    refine wpAny_pure ?_
    refine wpAny_bind (wpAny_setField hoi hdi (by simp) (wpAny_pure ⟨_, rfl, wpAny_pure (hQ _ _ ?_ ?_ (Heap.SameBut.update ..))⟩))
    · simp [hpl, hi, Array.getD, hj]
    · exact fld_upd hit 1 _ (by simp [rawInt])
theorem stop_x {Q:Option Value→Shared→Prop} (hh:A.handled=none) (h:∀ h',(∀ b o,s.heap.get? b=some o→h'.get? b=some o)→Q none { s with heap:=h' }) :
  wpAny (model prog w) A.in1 (do raiseNew (← newExc (.type "StopIteration") []):Sem PySem.Fin) (fun fin s'=>∃ v,fin=.done (.ret v)∧wpAny (model prog w) A (pure (some v)) Q E s')
   (fun e s'=>wpAny (model prog w) A (do if ← isInstance e (.type "StopIteration") then pure none else throw e) Q E s') s:=by
 refine wpAny_bind ?_
 simp only [newExc,newTuple]
 refine wpAny_bind (wpAny_newObj_type ?_ (by size_fits))
 refine wpAny_bind (m:=firstArgMember _ _) (wpAny_of_eq (a:=Value.none) (by first | rfl | (simp only [firstArgMember];rfl)) (wpAny_newObj_type ?_ (by size_fits)))
 simp only [raiseNew]
 refine wpAny_bind (wpAny_handled ?_)
 rw [show A.in1.handled=none from hh]
 refine wpAny_bind (wpAny_pure (wpAny_throw ?_))
 refine wpAny_bind (wpAny_isInstance (b:=true) (T:="StopIteration") ⟨_,Heap.get?_push_size _ rfl,rfl⟩ isSubtype_stop ?_)
 exact wpAny_pure (h _ fun b o e=>Heap.get?_push_of_some _ (Heap.get?_push_of_some _ e))
theorem sit_end {I a : Addr} {es : Array (Int × Value)} {ep : Nat} {t : SetTable} {ord : List Value} {fst : Nat → Value} {ps : List Addr} {o : Obj} {Q : Option Value → Shared → Prop} (hh : A.handled = none)
    (hit : SIt s.heap I a (fst es.size) es.size es.size ep) (ho : s.heap.get? a = some o) (hd : o.data = .set es ep t) (hf : t.fits es.size = true) (k : Wk w s.heap a es ep t ord fst ps)
    (hQ : ∀ h', Heap.ExtBut I s.heap h' → Q none { s with heap := h' }) : wpAny (model prog w) A (pyNext (.ref I)) Q E s := by
  obtain ⟨oi, hoi, hci, hdi⟩ := id hit
  have hol : ord.length = es.size := by rw [k.perm.length_eq]; simp
  unfold pyNext
  refine wpAny_bind (wpAny_attempt (wpAny_callSpecial?_slot (name := Str.ofString "__next__") hit.ty slot_sitN (wpAny_call_entry slot_sitN hit.ty entry_sitN ?_ (args_sitN _))))
  show wpAny _ _ (fieldsOf (.ref I) >>= _) _ _ s
  refine wpAny_bind (wpAny_fieldsOf hoi hdi ?_)
  dsimp only
  show wpAny _ _ (setEntries a >>= _) _ _ s
  refine wpAny_bind (wpAny_setEntries_of ho hd hf ?_)
  rw [if_neg (by simp)]
  have main : ∀ (zi : Nat), fst es.size = rawInt (zi : Nat) → Wk w s.heap a es ep t ord fst [] → wpAny (model prog w) A.in1 (do
      match ← setNext a zi es.size ep with
      | some (x, next) =>
        setField (.ref I) 0 (rawInt next)
        setField (.ref I) 1 (rawInt ((es.size : Int) + 1))
        ret x
      | none => setField (.ref I) 2 .none; raiseNew (← newExc (.type "StopIteration") [])) (fun fin s' => ∃ v, fin = .done (.ret v) ∧ wpAny (model prog w) A (pure (some v)) Q E s')
        (fun e s' => wpAny (model prog w) A (do if ← isInstance e (.type "StopIteration") then pure none else throw e) Q E s') s := by
    intro zi hz k0
    refine wpAny_bind (Wk.next ho hd hf fst k0 hz (Nat.le_refl _) fun zn hzn => ?_)
    rw [List.getElem?_eq_none (by omega)]
    show wpAny _ _ (setField (.ref I) 2 .none >>= _) _ _ s
    refine wpAny_bind (wpAny_setField hoi hdi (by simp) ?_)
    exact stop_x hh fun h' hk => hQ h' fun b o hb e => hk b o ((Heap.SameBut.update s.heap I _).extBut b o hb e)
  cases k with
  | text hb => exact main 0 rfl (.text hb)
  | plain hb hdr hl hr => exact main _ rfl (.plain hb hdr hl hr)
  | drawn hb p c pl hp op hop hdp =>
    show wpAny _ _ (seqItems? (.ref p) >>= _) _ _ s
    refine wpAny_bind (wpAny_seqItems hop hdp ?_)
    have hpl : pl.length = es.size := by rw [hp.length_eq]; simp
    have e1 : ((pl.map fun (j : Nat) => rawInt j).toArray)[(es.size : Int).toNat]? = none := by simp [hpl]
    dsimp only
    rw [e1]
    dsimp only
    refine wpAny_bind (wpAny_setField hoi hdi (by simp) ?_)
    have h1 := fld_upd (i' := es.size) hit 0 (rawInt 0) (f' := rawInt 0) (by simp)
    obtain ⟨o1, g1, c1, d1⟩ := id h1
    refine wpAny_bind (wpAny_setField g1 d1 (by simp) ?_)
    exact stop_x hh fun h' hk => hQ h' fun b o hb e => hk b o (((Heap.SameBut.update s.heap I _).trans (Heap.SameBut.update _ I _)).extBut b o hb e)
theorem sit_self {I a:Addr} {f:Value} {i n ep:Nat} {Q:Value→Shared→Prop} (hit:SIt s.heap I a f i n ep) (h:Q (.ref I) s):wpAny (model prog w) A (pyIter (.ref I)) Q E s:=by
 refine wpAny_pyIter_slot hit.ty slot_sitI (wpAny_call_entry slot_sitI hit.ty entry_sitI ?_ (args_sitI _))
 show wpAny _ _ (ret (.ref I)) _ _ s
 exact wpAny_pure ⟨_,rfl,"set_iterator",_,hit.ty,slot_sitN.lookup,h⟩
end
end PV
set_option linter.all false
set_option Elab.async false
set_option maxRecDepth 100000
set_option maxHeartbeats 4000000
namespace PV
open PySem PyProof.Rows
section
variable {prog:Program} {w:World} {A:Around} {E:Value→Shared→Prop} {s:Shared}
theorem walk_set (hh:A.handled=none) {I a:Addr} (hne:a≠I) {es:Array (Int × Value)} {ep:Nat} {t:SetTable} {ord:List Value} {fst:Nat→Value} {ps:List Addr} (hps:I ∉ ps) {o:Obj} (hd:o.data=.set es ep t) (hf:t.fits es.size=true) :
  WalksS prog w A I (I::a::ps) [I] (fun a b=>b=a) es.size (fun i v=>ord[i]?=some v) (fun i s=>SIt s.heap I a (fst i) i es.size ep∧s.heap.get? a=some o∧Wk w s.heap a es ep t ord fst ps) where
 sub:=fun b hb=>by simp at hb;simp [hb]
 grefl:=fun _=>rfl
 gtrans:=fun _ _ _ h1 h2=>h2.trans h1
 frame:=fun i s h' tk st _ hk=>⟨let ⟨oi,h1,h2⟩:=st.1;⟨oi,hk I (by simp) _ h1,h2⟩,hk a (by simp) _ st.2.1,st.2.2.mono fun b hb=>hk b (by simp [hb])⟩
 item:=fun i s Q E hi st hQ=>sit_item st.1 st.2.1 hd hf hne st.2.2 hps hi fun v h' hv hit' sb =>
  hQ v _ hv ⟨hit',sb.extBut a _ hne st.2.1,st.2.2.mono fun b hb o e=>sb.extBut b o (fun e=>hps (e ▸ hb)) e⟩ ⟨fun b o hb e=>sb.extBut b o (fun h=>hb (by simp [h])) e,rfl,rfl,rfl,Nat.le_refl _⟩
 done:=fun s Q E st hQ=>sit_end hh st.1 st.2.1 hd hf st.2.2 fun h' he=>hQ _ ⟨fun b o hb e=>he b o (fun h=>hb (by simp [h])) e,rfl,rfl,rfl,Nat.le_refl _⟩
 self:=fun i s Q E st hQ=>sit_self st.1 hQ
theorem ris_small {xs:Array Nat} (h:xs.size≤1):Ris xs:=fun i j hi hj hij=>by omega
theorem setX_ty {a:Addr} {led:Bool} {ks:List Int} {o:Obj} {es:Array (Int × Value)} {ep:Nat} {t:SetTable} (ho:s.heap.get? a=some o) (S:SetO prog w led ks o es ep t):s.TypeIs (.ref a) "set":=⟨o,ho,S.ex.1⟩
theorem iter_set {a : Addr} {ks : List Int} {o : Obj} {es : Array (Int × Value)} {ep : Nat} {t : SetTable} {Q : Value → Shared → Prop} (ho : s.heap.get? a = some o) (S : SetO prog w (!byT w) ks o es ep t)
    (h : ∀ h' dr I ord fst ps, (∀ b o, s.heap.get? b = some o → h'.get? b = some o) → (∀ b ∈ I :: ps, s.heap.objs.size ≤ b) → I ∉ ps → SIt h' I a (fst 0) 0 es.size ep → Wk w h' a es ep t ord fst ps → Q (.ref I) { s with heap := h', drawn := dr }) :
    wpAny (model prog w) A (pyIter (.ref a)) Q E s := by
  have hT := setX_ty ho S
  have hsz : es.size ≤ sizeLine := fits_of_scanBound S.few
  have hfit : t.place.size = es.size := by have := S.fit; simp only [SetTable.fits, Bool.and_eq_true, beq_iff_eq] at this; exact this.1
  refine wpAny_pyIter_slot hT F.slot_set_iter (wpAny_call_entry F.slot_set_iter hT entry_setI ?_ (F.args_set_iter_1 _))
  show wpAny _ _ (Builtin.Frozenset.sizeOf a >>= _) _ _ s
  unfold Builtin.Frozenset.sizeOf
  refine wpAny_bind (wpAny_bind (wpAny_setEntries_of ho S.dat S.fit (wpAny_pure ?_)))
  unfold setDrawn
  refine wpAny_bind (wpAny_bind (wpAny_setState_of ho S.dat S.fit ?_))
  dsimp only
  refine wpAny_bind (m := setsByText) (wpAny_bind (wpAny_askSetting (wpAny_pure (wpAny_pure ?_))))
  show wpAny _ _ (if (!byT w && (!t.plain && decide (es.size > 1))) = true then _ else _) _ _ s
  have fin : ∀ (f : Value) (s1 : Shared) (dr) (ord fst ps), s1 = { s with heap := s1.heap, drawn := dr } → (∀ b o, s.heap.get? b = some o → s1.heap.get? b = some o) → s.heap.objs.size ≤ s1.heap.objs.size → (∀ b ∈ ps, s.heap.objs.size ≤ b ∧ b < s1.heap.objs.size) →
      Wk w s1.heap a es ep t ord fst ps → f = fst 0 → wpAny (model prog w) A.in1 (do
        let __do_lift ← setEpoch a
        let __do_lift ← newFields "set_iterator" [f, rawInt 0, .ref a, rawInt (es.size : Nat), rawInt (__do_lift : Nat)]
        ret __do_lift) (fun fin s' => ∃ v, fin = .done (.ret v) ∧ ∃ T' r, s'.TypeIs v T' ∧ typeLookup (.type T') "__next__" = pure (some r) ∧ Q v s') E s1 := by
    intro f s1 dr ord fst ps es1 hk hle hps k hf
    refine wpAny_bind (wpAny_setEpoch_of (hk _ _ ho) S.dat S.fit ?_)
    unfold newFields
    refine wpAny_bind (wpAny_newObj_type ?_ (by show sizeOk _; simp [sizeOk, sizeLine_eq]))
    refine wpAny_pure ⟨_, rfl, "set_iterator", _, ⟨_, Heap.get?_push_size _ rfl, rfl⟩, slot_sitN.lookup, ?_⟩
    rw [es1]
    refine h _ dr _ ord fst ps (fun b o e => Heap.get?_push_of_some _ (hk b o e)) (fun b hb => ?_) (fun hI => ?_) ?_ (k.mono fun b hb o e => Heap.get?_push_of_some _ e)
    · rcases List.mem_cons.mp hb with rfl | hb
      · exact hle
      · exact (hps b hb).1
    · exact Nat.lt_irrefl _ (hps _ hI).2
    · subst hf; exact ⟨_, Heap.get?_push_size _ rfl, rfl, rfl⟩
  have same : s = { s with heap := s.heap, drawn := s.drawn } := by cases s; rfl
  cases hb : byT w with
  | true =>
    rw [if_neg (by simp)]
    refine wpAny_bind (wpAny_pure ?_)
    exact fin (rawInt 0) s s.drawn _ _ [] same (fun _ _ e => e) (Nat.le_refl _) (by simp) (.text hb) rfl
  | false =>
    by_cases hdr : (!t.plain && decide (es.size > 1)) = true
    · rw [if_pos (by rw [hdr]; rfl)]
      refine wpAny_bind (drawO es.size (List.range es.size) s _ (by simp) fun ys dr hp => ?_)
      refine wpAny_bind (wpAny_newTuple ?_ (by rw [List.length_map, hp.length_eq, List.length_range]; exact hsz))
      refine fin _ _ dr _ _ [s.heap.objs.size] rfl (fun b o e => Heap.get?_push_of_some _ e) (by show s.heap.objs.size ≤ (s.heap.push _).objs.size; rw [Heap.size_push]; omega) (fun b hb => by
        simp at hb; subst hb; refine ⟨Nat.le_refl _, ?_⟩; show _ < (s.heap.push _).objs.size; rw [Heap.size_push]; omega) (.drawn hb s.heap.objs.size 0 ys hp _ (Heap.get?_push_size _ rfl) rfl) rfl
    · rw [if_neg (by simp at hdr ⊢; exact hdr)]
      refine wpAny_bind (wpAny_pure ?_)
      refine fin (rawInt 0) s s.drawn _ _ [] same (fun _ _ e => e) (Nat.le_refl _) (by simp) (.plain hb (by simpa using hdr) (by rw [S.ok.led, hb]; rfl) ?_) rfl
      cases hp : t.plain with
      | true => exact S.ok.ris hp
      | false => exact ris_small (by rw [hp] at hdr; simp at hdr; omega)
end
end PV
set_option linter.all false
set_option Elab.async false
set_option maxRecDepth 100000
set_option maxHeartbeats 4000000
namespace PV
open PySem PyProof.Rows
section
variable {prog:Program} {w:World} {A:Around} {E:Value→Shared→Prop} {s:Shared}
theorem collect_set {a:Addr} {ks:List Int} {Q:List Value→Shared→Prop} (hh:A.handled=none) (hS:SetX prog w s.heap a (!byT w) ks)
  (h:∀ h' dr tk vs js,(∀ b o,s.heap.get? b=some o→h'.get? b=some o)→s.heap.objs.size < h'.objs.size→IntsAre vs js→js.Perm ks→Q vs { s with heap:=h',drawn:=dr,toks:=tk }):wpAny (model prog w) A (collect (.ref a)) Q E s:=by
 obtain ⟨o,es,ep,t,ho,S⟩:=hS
 have hn:es.size≤sizeLine:=fits_of_scanBound S.few
 have ha:a < s.heap.objs.size:=Heap.lt_size ho
 unfold collect
 refine wpAny_bind (wpAny_runValue (codeAny_builtin F.entry_proto_collect ?_))
 rw [Around.under_plainId F.plain_proto_collect _]
 show wpAny _ A.in1 (newList [] >>= fun l=>again (.builtin "list.__iadd__" ⟨[l,.ref a],[]⟩)) _ _ s
 refine wpAny_bind (wpAny_newObj_type (wpAny_pure ⟨plainId_quiet F.plain_list_iadd _,codeAny_builtin F.entry_list_iadd ?_⟩))
 rw [Around.under_plainId F.plain_list_iadd _]
 generalize hP:s.heap.push { cls:=.type "list",data:=.seq ([]:List Value).toArray }=hp1
 have hL1:hp1.get? s.heap.objs.size=some { cls:=.type "list",data:=.seq ([]:List Value).toArray }:=hP ▸ Heap.get?_push_size _ rfl
 have up1:∀ b o,s.heap.get? b=some o→hp1.get? b=some o:=fun b o e=>hP ▸ Heap.get?_push_of_some _ e
 have sz1:s.heap.objs.size < hp1.objs.size:=Heap.lt_size hL1
 have hT:Shared.TypeIs { s with heap:=hp1 } (.ref a) "set":=⟨o,up1 _ _ ho,S.ex.1⟩
 show wpAny _ A.in1 (Builtin.List.listExtendWith (.ref s.heap.objs.size) (.ref a) (.ref s.heap.objs.size)) _ _ { s with heap:=hp1 }
 unfold Builtin.List.listExtendWith
 refine wpAny_bind (wpAny_typeOf hT ?_)
 have c1:Builtin.List.listSameRef (.ref s.heap.objs.size) (.ref a)=false:=by simp only [Builtin.List.listSameRef,beq_eq_false_iff_ne,ne_eq];exact Nat.ne_of_gt ha
 have c2:(Value.type "set" == Value.type "list")=false:=by decide
 have c3:(Value.type "set" == Value.type "tuple")=false:=by decide
 simp only [c1,c2,c3,Bool.or_false,Bool.false_eq_true,if_false]
 refine wpAny_bind (iter_set (s:={ s with heap:=hp1 }) (up1 _ _ ho) S fun h2 dr I ord fst ps up2 new hI hit k=>?_)
 have hT2:Shared.TypeIs { s with heap:=h2,drawn:=dr } (.ref a) "set":=⟨o,up2 _ _ (up1 _ _ ho),S.ex.1⟩
 refine wpAny_bind (wpAny_holding ?_)
 unfold Builtin.List.listLengthHint
 refine wpAny_bind (wpAny_specialOf hT2 F.slot_set_len.lookup ?_)
 have sp:splitId "set.__len__"=some ("set","__len__"):=by decide +kernel
 dsimp only
 rw [sp]
 dsimp only
 refine wpAny_bind (wpAny_isInstance (b:=true) hT2 sub_set_self ?_)
 rw [if_neg (by simp),if_pos (by decide +kernel)]
 refine wpAny_bind (wpAny_typeOf hT2 (wpAny_pure ?_))
 rw [if_pos (by decide +kernel)]
 refine wpAny_bind (wpAny_rule (wpAny_bind ?_))
 show wpAny _ A.in1 (updateSeq s.heap.objs.size (·.push .none) >>= fun _=>updateSeq s.heap.objs.size (·.pop)) _ _ _
 have g1:=up2 _ _ hL1
 refine wpAny_bind (wpAny_updateSeq g1 rfl ?_)
 have g2:=Heap.get?_update_self (Obj.mapSeq (·.push Value.none)) g1 rfl
 refine wpAny_updateSeq g2 rfl ?_
 have g3:=Heap.get?_update_self (Obj.mapSeq (·.pop)) g2 rfl
 have oth0:∀ b o,b≠s.heap.objs.size→h2.get? b=some o→((h2.update s.heap.objs.size (Obj.mapSeq (·.push Value.none))).update s.heap.objs.size (Obj.mapSeq (·.pop))).get? b=some o :=
  fun b o hb e=>(Heap.get?_update_other _ _ (Ne.symm hb)).trans ((Heap.get?_update_other _ _ (Ne.symm hb)).trans e)
 obtain ⟨h4,e4⟩:∃ h4,h4=(h2.update s.heap.objs.size (Obj.mapSeq (·.push Value.none))).update s.heap.objs.size (Obj.mapSeq (·.pop)):=⟨_,rfl⟩
 have oth:∀ b o,b≠s.heap.objs.size→h2.get? b=some o→h4.get? b=some o:=by rw [e4];exact oth0
 have g4:∃ c,h4.get? s.heap.objs.size=some { cls:=.type "list",dict:=none,data:=.seq #[] c,slots:=#[] }:=⟨_,by rw [e4];exact g3⟩
 obtain ⟨c4,g4⟩:=g4
 show wpAny _ A.in1 _ _ _ { s with heap:=(h2.update s.heap.objs.size (Obj.mapSeq (·.push Value.none))).update s.heap.objs.size (Obj.mapSeq (·.pop)),drawn:=dr }
 rw [← e4]
 clear e4 oth0 g3 g2
 have out:∀ b ∈ I::a::ps,b≠s.heap.objs.size:=fun b hb=>by
  rcases List.mem_cons.mp hb with rfl | hb
  ·have:=new b (by simp);simp only at this;omega
  ·rcases List.mem_cons.mp hb with rfl | hb
   ·exact Nat.ne_of_lt ha
   ·have:=new b (by simp [hb]);simp only at this;omega
 have hne:a≠I:=Nat.ne_of_lt (Nat.lt_of_lt_of_le (Nat.lt_trans ha sz1) (new I (by simp)))
 have W:=walk_set (prog:=prog) (w:=w) (A:=A.in1) (by simpa using hh) hne (ord:=ord) (fst:=fst) hI (o:=o) S.dat S.fit
 have st:SIt h4 I a (fst 0) 0 es.size ep:=by
  obtain ⟨oi,h1,h3⟩:=hit
  exact ⟨oi,oth I _ (out I (by simp)) h1,h3⟩
 have st2:h4.get? a=some o:=oth _ _ (out a (by simp)) (up2 _ _ (up1 _ _ ho))
 have st3:Wk w h4 a es ep t ord fst ps:=k.mono fun b hb o e=>oth b o (out b (by simp [hb])) e
 refine wpAny_pure ⟨plainId_quiet F.plain_extend_loop _,codeAny_extend_loopS W hn s.heap.objs.size (fun hm=>out _ hm rfl) (.ref s.heap.objs.size) es.size 0 { s with heap:=h4,drawn:=dr } #[] c4 rfl (Nat.zero_le _) ⟨st,st2,st3⟩ g4 (ItemsOf.nil _) fun s' acc' c' hm hS' hacc=>?_⟩
 show wpAny _ A (load s.heap.objs.size >>= _) _ _ s'
 refine wpAny_bind (wpAny_load hS' (wpAny_pure ?_))
 have e1:acc'.toList=ord:=by
  have hol:ord.length=es.size:=by rw [k.perm.length_eq];simp
  apply List.ext_getElem?
  intro j
  rcases Nat.lt_or_ge j acc'.size with hj | hj
  ·have:=hacc.2 j acc'[j] (by simp [hj])
   rw [this];simp [hj]
  ·rw [List.getElem?_eq_none (by simpa using hj),List.getElem?_eq_none (by rw [hol,← hacc.1];exact hj)]
 obtain ⟨js,j1,j2⟩:=S.ks
 obtain ⟨js',r1,r2⟩:=ints_perm (e1 ▸ k.perm) j1
 obtain ⟨h9,g9,d9,t9,o9⟩:=s'
 have eg:g9=s.gens:=hm.gens
 have ed:d9=dr:=hm.drawn
 have eo:o9=s.os:=hm.os
 subst eg;subst ed;subst eo
 refine h h9 d9 t9 acc'.toList js' (fun b ob e=>?_) (Heap.lt_size hS') r1 (r2.trans j2)
 have hb:b≠s.heap.objs.size:=Nat.ne_of_lt (Heap.lt_size e)
 have hbI:b≠I:=Nat.ne_of_lt (Nat.lt_of_lt_of_le (Heap.lt_size (up1 _ _ e)) (new I (by simp)))
 exact hm.heap b ob (by simp [hb,hbI]) (oth b ob hb (up2 _ _ (up1 _ _ e)))
theorem sorted_set {a:Addr} {ks:List Int} {Q:Value→Shared→Prop} (hh:A.handled=none) (hS:SetX prog w s.heap a (!byT w) ks) (h64:ks.length < 64)
  (h:∀ h' dr tk D vs js c,(∀ b o,s.heap.get? b=some o→h'.get? b=some o)→s.heap.objs.size≤D→h'.get? D=some (seqObj "list" vs.toArray c)→IntsAre vs js→js.Perm ks→js.Pairwise (·≤·)→Q (.ref D) { s with heap:=h',drawn:=dr,toks:=tk }) :
  wpAny (model prog w) A (call (.builtin "sorted") [.ref a]) Q E s:=by
 refine Calls.call_function_entry kind_sorted plain_sorted entry_sorted (args_sorted1 _) ?_
 unfold Builtin.«sorted»
 refine wpAny_bind (m:=checkCount "sorted" 1 1 _) (wpAny_pure (wpAny_bind (collect_set (by simpa using hh) hS fun h1 dr tk vs js up1 sz1 hv hj=>?_)))
 have hlen:vs.length=ks.length:=by rw [← hj.length_eq,(ints_iff.mp hv).2];simp
 refine wpAny_bind (wpAny_newList ?_ (by rw [sizeLine_eq];omega))
 generalize hP:h1.push { cls:=.type "list",data:=.seq vs.toArray }=h2
 have g2:h2.get? h1.objs.size=some (seqObj "list" vs.toArray 0):=hP ▸ Heap.get?_push_size _ rfl
 have up2:∀ b o,h1.get? b=some o→h2.get? b=some o:=fun b o e=>hP ▸ Heap.get?_push_of_some _ e
 show wpAny _ _ _ _ _ { s with heap:=h2,drawn:=dr,toks:=tk }
 refine wpAny_bind (wpAny_holding (wpAny_call_entry slot_list_sort ⟨_,g2,rfl⟩ entry_list_sort (list_sort_tree g2 hv (by omega) fun out ns' a1 a2 a3=>⟨_,rfl,wpAny_pure ⟨_,rfl,?_⟩⟩) (args_list_sort _)))
 have hlt:h1.objs.size < h2.objs.size:=Heap.lt_size g2
 have key:∃ c,(sortedHeap h2 h1.objs.size vs out).get? h1.objs.size=some (seqObj "list" out c):=by
  unfold sortedHeap
  obtain ⟨e1,q1⟩:∃ e1,(h2.update h1.objs.size (Obj.mapSeq fun _=>#[])).get? h1.objs.size=some (seqObj "list" #[] e1):=⟨_,get?_update_seq g2 (fun _=>#[])⟩
  exact ⟨_,get?_update_seq (c:="list") (n:=e1) (xs:=#[]) (Heap.get?_push_of_some _ (Heap.get?_push_of_some _ q1)) (fun _=>out)⟩
 obtain ⟨c,hc⟩:=key
 refine h _ dr tk h1.objs.size out.toList ns' c (fun b ob e=>?_) (by omega) (by simpa using hc) a1 (a2.trans hj) a3
 have hb:b≠h1.objs.size:=Nat.ne_of_lt (Heap.lt_size (up1 _ _ e))
 unfold sortedHeap
 rw [Heap.get?_update_other _ _ (Ne.symm hb)]
 refine Heap.get?_push_of_some _ (Heap.get?_push_of_some _ ?_)
 rw [Heap.get?_update_other _ _ (Ne.symm hb)]
 exact up2 _ _ (up1 _ _ e)
end
end PV
set_option linter.all false
set_option Elab.async false
set_option maxRecDepth 100000
set_option maxHeartbeats 4000000
namespace PV
open PySem PyProof.Rows PySem.Spec
section
variable {prog:Program} {w:World} {A:Around} {E:Value→Shared→Prop} {s:Shared}
theorem SetX.keep {h h':Heap} {a:Addr} {led:Bool} {ks:List Int} (x:SetX prog w h a led ks) (hk:∀ o,h.get? a=some o→h'.get? a=some o):SetX prog w h' a led ks:=by
 obtain ⟨o,es,ep,t,ho,S⟩:=x
 exact ⟨o,es,ep,t,hk o ho,S⟩
theorem setX_fresh {h:Heap} {a:Addr} {led:Bool} (ho:h.get? a=some { cls:=.type "set",dict:=none,data:=.set #[] 0 (.fresh 0 0 led) }):SetX prog w h a led [] :=
 ⟨_,#[],0,_,ho,⟨rfl,rfl,rfl⟩,rfl,fun e he=>by simp at he,⟨[],.nil,.refl _⟩,by decide,rfl,tabOk_fresh _ _ _⟩
theorem set_loop {R:Result→Shared→Prop} {I:Addr} {fp wr:List Addr} {G:Array GenState→Array GenState→Prop} {P:Nat→Value→Prop} {St:Nat→Shared→Prop} {ns:List Int} {led:Bool}
  (W:WalksS prog w A.in1 I fp wr G ns.length P St) (a:Addr) (ha:a ∉ fp) (hv:∀ i v,P i v→∃ t,v=.int (ns.getD i 0) t) (hb:ns.length + 1 < scanBound) :
  ∀ (k i:Nat) (s:Shared),ns.length - i=k→i≤ns.length→St i s→SetX prog w s.heap a led (seen (ns.take i)) →
   (∀ s',Moved (a::wr) G s s'→SetX prog w s'.heap a led (seen ns)→R (.ok (.ret .none)) s')→codeAny (model prog w) A (.builtin "set.update.loop" ⟨[.ref a,.ref I],[]⟩) R s:=by
 have haw:a ∉ wr:=fun h=>ha (W.sub _ h)
 have sub:∀ b ∈ wr,b ∈ a::wr:=fun b hb=>List.mem_cons_of_mem _ hb
 intro k
 induction k with
 | zero =>
  intro i s hk hi st hS hR
  have e:i=ns.length:=by omega
  subst e
  rw [List.take_length] at hS
  refine codeAny_builtin F.entry_set_update_loop ?_
  rw [Around.under_plainId F.plain_set_update_loop _]
  show wpAny _ A.in1 (pyNext (.ref I) >>= _) _ _ s
  exact wpAny_bind (W.done s _ _ st fun s' hm=>wpAny_pure (hR s' (hm.mono sub) (hS.keep fun o e=>hm.heap a o haw e)))
 | succ k ih =>
  intro i s hk hi st hS hR
  have hlt:i < ns.length:=by omega
  refine codeAny_builtin F.entry_set_update_loop ?_
  rw [Around.under_plainId F.plain_set_update_loop _]
  show wpAny _ A.in1 (pyNext (.ref I) >>= _) _ _ s
  refine wpAny_bind (W.item i s _ _ hlt st fun v s' hP st' hm=>?_)
  obtain ⟨t,rfl⟩:=hv i v hP
  have hS':=hS.keep fun o e=>hm.heap a o haw e
  show wpAny _ A.in1 (holding [Value.int (ns.getD i 0) t] (setAdd a (.int (ns.getD i 0) t)) >>= _) _ _ s'
  refine wpAny_bind (wpAny_holding ?_)
  unfold setAdd
  refine wpAny_holding (wpAny_bind ((intKind prog w).pyHash (k:=ns.getD i 0) (intKind_is _ _ _ _) ?_))
  have room:(seen (ns.take i)).length + 1 < scanBound:=by have:=seen_len (ns.take i);rw [List.length_take] at this;omega
  refine add_x (s:={ s' with toks:=s'.toks + 1 }) hS' room fun h' b sb hS2=>?_
  have e2:addv (seen (ns.take i)) (ns.getD i 0)=seen (ns.take (i + 1)):=by rw [← seen_snoc,List.take_add_one,List.getElem?_eq_getElem hlt,List.getD_eq_getElem?_getD,List.getElem?_eq_getElem hlt];rfl
  rw [e2] at hS2
  refine wpAny_pure ⟨plainId_quiet F.plain_set_update_loop _,ih (i + 1) _ (by omega) hlt (W.frame _ s' _ _ st' (Nat.le_succ _) fun b hb o e=>?_) hS2 fun s2 hm2 hS3=>?_⟩
  ·rw [sb.2 b fun h=>ha (h ▸ hb)];exact e
  ·refine hR s2 (Moved.trans W.gtrans ((hm.mono sub).then_heap (Nat.le_succ _) fun b o hb e=>?_) hm2) hS3
   rw [sb.2 b fun h=>hb (h ▸ List.mem_cons_self)];exact e
theorem new_set (x:Value) {Q:Value→Shared→Prop} (h:Q (.ref s.heap.objs.size) { s with heap:=s.heap.push { cls:=.type "set",dict:=none,data:=.set #[] 0 (.fresh 0 0 (!byT w)) } }) :
  codeAny (model prog w) A (.call (.builtin "set.__new__") ⟨[.type "set",x],[]⟩) (wants Q E) s:=by
 refine codeAny_of_tree ?_
 show wpAny _ A.in1 (do checkBuiltinCall "set.__new__" ⟨[.type "set",x],[]⟩;again (.builtin "set.__new__" ⟨[.type "set",x],[]⟩)) _ _ s
 refine wpAny_bind (wpAny_of_eq (PySem.F.newCall_set_1 x) (wpAny_pure ⟨plainId_quiet F.plain_set_new _,codeAny_builtin F.entry_set_new ?_⟩))
 rw [Around.under_plainId F.plain_set_new _]
 unfold Builtin.«set.__new__» Builtin.Frozenset.newClass
 have hsub:=sub_set_self
 obtain ⟨hp,g,d,tk,os⟩:=s
 dsimp only
 wp_walk
 refine wpAny_askSetting (wpAny_pure ?_)
 dsimp only
 simp only [newObj]
 exact wpAny_bind (wpAny_alloc (wpAny_pure (wpAny_pure h)))
set_option maxHeartbeats 3200000 in
theorem call_set {l:Addr} {its:Array Value} {ns:List Int} {Q:Value→Shared→Prop} (hh:A.handled=none) (hl:s.heap.IsList l its) (hi:IntsAre its.toList ns) (hb:ns.length + 1 < scanBound)
  (h:∀ (h':Heap) (tk:Nat),SetX prog w h' s.heap.objs.size (!byT w) (seen ns)→(∀ b o,b < s.heap.objs.size→s.heap.get? b=some o→h'.get? b=some o)→Q (.ref s.heap.objs.size) { s with heap:=h',toks:=tk }) :
  wpAny (model prog w) A (call (.type "set") [.ref l]) Q E s:=by
 have hlen:its.size=ns.length:=by rw [(ints_iff.mp hi).2];simp
 obtain ⟨c,tl,hmro⟩:=F.called_set.mro
 have hmade:=F.called_set.made
 have hsub:=F.called_set.sub
 refine wpAny_call (codeAny_of_tree ?_)
 show wpAny _ _ (callAny (.type "set") _) _ _ _
 refine wpAny_pure ⟨Code.quiet_builtin _ (by decide +kernel),codeAny_builtin F.entry_type_call ?_⟩
 rw [Around.under_plain (weight_type_call_type "set" [.ref l] []) rfl]
 have h1:=F.called_set.notType
 have h2:=F.called_set.canCreate
 have hct:=PySem.F.typeCall_set_1 (.ref l)
 repeat (any_goals (first | assumption | wp_step))
 refine codeAny_mono (new_set (.ref l) (E:=E) (Q:=fun obj s₁=>obj=.ref s.heap.objs.size∧s₁={ s with heap:=s.heap.push { cls:=.type "set",dict:=none,data:=.set #[] 0 (.fresh 0 0 (!byT w)) } }) ⟨rfl,rfl⟩) fun r s₁ hr=>?_
 cases r with
 | error e=>exact hr
 | ok fl =>
  cases fl with
  | ret obj =>
   obtain ⟨rfl,rfl⟩:=hr
   have g0:(s.heap.push { cls:=.type "set",dict:=none,data:=.set #[] 0 (.fresh 0 0 (!byT w)) }).get? s.heap.objs.size=some { cls:=.type "set",dict:=none,data:=.set #[] 0 (.fresh 0 0 (!byT w)) }:=Heap.get?_push_size _ rfl
   have hT:Shared.TypeIs { s with heap:=s.heap.push { cls:=.type "set",dict:=none,data:=.set #[] 0 (.fresh 0 0 (!byT w)) } } (.ref s.heap.objs.size) "set":=⟨_,g0,rfl⟩
   have hli:=F.called_set.init.lookup
   have hbi:=F.called_set.init.bind (.ref s.heap.objs.size)
   repeat (any_goals (first | assumption | wp_step))
   refine codeAny_mono (codeAny_call_builtin (R:=wants (fun r s₂=>r=.none∧∃ h' tk,s₂={ s with heap:=h',toks:=tk }∧SetX prog w h' s.heap.objs.size (!byT w) (seen ns)∧(∀ b o,b < s.heap.objs.size→s.heap.get? b=some o→h'.get? b=some o)) E)
    F.called_set.init.plain F.entry_set_init (check_set_init_1 hT ?_)) fun r₂ s₂ hr₂=>?_
   ·obtain ⟨ol,hol,hcl,nl,hdl⟩:=hl
    obtain ⟨ocls,odict,odata,oslots⟩:=ol
    simp only at hcl hdl
    subst hcl;subst hdl
    have hol':(s.heap.push { cls:=.type "set",dict:=none,data:=.set #[] 0 (.fresh 0 0 (!byT w)) }).get? l=some { cls:=.type "list",dict:=odict,data:=.seq its nl,slots:=oslots }:=Heap.get?_push_of_some _ hol
    have hsls:=PySem.F.sub_list_set
    have hslf:=PySem.F.sub_list_frozenset
    have hne:(Value.type "list" == Value.type "dict")=false:=by decide
    have hl1:(s.heap.push { cls:=.type "set",dict:=none,data:=.set #[] 0 (.fresh 0 0 (!byT w)) }).IsList l its:=⟨_,hol',rfl,nl,rfl⟩
    unfold Builtin.«set.__init__» noKeywords Builtin.Frozenset.updateFrom
    generalize hPI:pyIter=PI
    wp_walk
    subst hPI
    refine wpAny_pyIter_list hl1 (wpAny_bind (wpAny_runValue ?_))
    have hlS:l < s.heap.objs.size:=Heap.lt_size hol
    have sz:(s.heap.push { cls:=.type "set",dict:=none,data:=.set #[] 0 (.fresh 0 0 (!byT w)) }).objs.size=s.heap.objs.size + 1:=Heap.size_push ..
    have hneI:l≠(s.heap.push { cls:=.type "set",dict:=none,data:=.set #[] 0 (.fresh 0 0 (!byT w)) }).objs.size:=by
     rw [sz];exact Nat.ne_of_lt (Nat.lt_succ_of_lt hlS)
    have W:=(Walks.list (prog:=prog) (w:=w) (A:=A.in1.in1.in1) (by simpa using hh) _ l hneI its).toS
    rw [hlen] at W
    refine set_loop W s.heap.objs.size ?_ (fun i v hv=>IntsAre.int_at hi i v (by rw [Array.getElem?_toList];exact hv)) hb (ns.length - 0) 0 _ rfl (Nat.zero_le _) ⟨⟨_,Heap.get?_push_size _ rfl,rfl,rfl⟩,hl1.push _⟩ (setX_fresh (led:=!byT w) (Heap.get?_push_of_some _ g0)) ?_
    ·rw [sz];simp only [List.mem_cons,List.not_mem_nil,or_false,not_or]
     exact ⟨Nat.ne_of_lt (Nat.lt_succ_self _),Nat.ne_of_gt hlS⟩
    ·intro s' hm hS'
     obtain ⟨h',g',d',tk',os'⟩:=s'
     have eg:g'=s.gens:=hm.gens
     have ed:d'=s.drawn:=hm.drawn
     have eo:os'=s.os:=hm.os
     subst eg;subst ed;subst eo
     show wpAny _ _ _ _ _ _
     refine wpAny_pure ?_
     show wpAny _ _ (ret Value.none) _ _ _
     refine wpAny_pure ⟨rfl,h',tk',rfl,hS',fun b o hb e=>hm.heap b o ?_ (Heap.get?_push_of_some _ (Heap.get?_push_of_some _ e))⟩
     rw [sz]
     simp only [List.mem_cons,List.not_mem_nil,or_false,not_or]
     exact ⟨Nat.ne_of_lt hb,Nat.ne_of_lt (Nat.lt_succ_of_lt hb)⟩
   ·cases r₂ with
    | error e=>exact hr₂
    | ok fl₂ =>
     cases fl₂ with
     | ret r =>
      obtain ⟨rfl,h',tk,rfl,hS',hk'⟩:=hr₂
      repeat (any_goals (first | assumption | wp_step))
      exact h _ _ hS' hk'
     | _=>exact hr₂.elim
  | _=>exact hr.elim
end
end PV
set_option linter.all false
set_option Elab.async false
set_option maxRecDepth 100000
set_option maxHeartbeats 4000000
namespace PV
open PySem PySem.Spec PyProof.Rows
open L2 (V Hp HO Vals SqL SqT Same upd Cx PE PT PW PA PS PSs TE TT TA TS Inv RelV upd_same upd_ne ne_of_none Un)
theorem cut_anti {F A B:Hp} (s:Same A B):Same (cut F B) (cut F A):=fun b o h=>by
 unfold cut at h ⊢
 split at h
 ·rename_i hn;rw [s.free hn];exact h
 ·cases h
theorem scals_N {K:PySem.W.Frag} {H H':Hp}:∀ {ds:List D} {vs:List V},ds.all scalD=true→Reps K H ds vs→RepsN H' ds vs
 | [],vs,_,h=>by simp only [Reps,RepsN] at h ⊢;exact h
 | d::ds,vs,hs,h=>by
  simp only [Reps,RepsN] at h ⊢
  rw [List.all_cons,Bool.and_eq_true] at hs
  obtain ⟨v,r,rfl,h2,h3⟩:=h
  refine ⟨v,r,rfl,?_,scals_N hs.2 h3⟩
  have h1:=hs.1
  cases d <;> simp_all [Rep,RepN,scalD]
def tN (K:PySem.W.Frag) (f:Ex):TE:=fun σ H Q=>∃ BF BH F env L d,SOk K BF BH F H σ env L∧f env=some d∧∀ v F' H',Ext F H F' H'→RepN (cut F' BH) d v→Q v H'
def tW (K:PySem.W.Frag) (f:Ex):TE:=fun σ H Q=>∃ BF BH F env L d,SOk K BF BH F H σ env L∧f env=some d∧∀ v F' H',Ext F H F' H'→RepN (cut F' H) d v→Q v H'
structure PDn (X:Cx) (e:Expr) (f:Ex):Prop where
 h:PE X e (tN X.K f)
structure PDw (X:Cx) (e:Expr) (f:Ex):Prop where
 h:PE X e (tW X.K f)
def rN:RetP:=fun BH F' H' d v=>RepN (cut F' BH) d v
theorem rN_non:∀ BH F' H',rN BH F' H' .non .non:=fun _ _ _=>by simp [rN,RepN]
section
variable {X:Cx} {m m1 m2:Md} {r:RetP} {a b e:Expr} {es:List Expr} {f g:Ex} {fs:List Ex} {pos pos' p p2:Pos}
theorem PDw.n (h:PDw X e f):PDn X e f:=⟨PE.of h.h fun σ H Q ⟨BF,BH,F,env,L,d,S,e,q⟩=>⟨BF,BH,F,env,L,d,S,e,fun v F' H' z r=>q v F' H' z (RepN.mono (cut_anti S.s0) _ _ r)⟩⟩
theorem PDn.d (h:PDn X e f):PD X .k e f:=PD.mk <| PE.of h.h fun σ H Q ⟨BF,BH,F,env,L,d,S,e,q⟩=>⟨BF,BH,F,env,L,d,S,e,fun v F' H' z r=>q v F' H' z (RepN.rep _ _ (RepN.mono cut_sub _ _ r))⟩
theorem PDo.w (h:PDo X m e f) (hf:∀ env d,f env=some d→∃ ds,d=.lst ds∧ds.all scalD=true):PDw X e f:=⟨PE.of h fun σ H Q ⟨BF,BH,F,env,L,d,S,e,q⟩=>by
 obtain ⟨ds,rfl,hs⟩:=hf env d e
 refine ⟨BF,BH,F,env,L,ds,S,e,fun a vs F' H' z h0 h1 h2 r=>?_⟩
 have y:Ext F H (upd F' a (.lst vs)) H':=z.frz h0 h1 h2
 refine q _ _ H' y ?_
 simp only [RepN]
 exact ⟨a,vs,rfl,by rw [cut_get h0];exact upd_same,scals_N hs r⟩⟩
theorem pn_var (i:Nat) {x:Str} (hN:X.N[i]?=some x:=by kernel_rfl) (hv:visB X.env.scope x=true:=by kernel_rfl) (hd:(x == ("__debug__":Str))=false:=by kernel_rfl)
  (hcd:(x == ("__classdict__":Str))=false:=by kernel_rfl):PDn X (.Name x pos) (eVarF i):=⟨PE.of (L2.pe_var hN (visB_ok hv) hd hcd) fun σ H Q ⟨BF,BH,F,env,L,d,S,e,q⟩=>by
 unfold eVarF at e
 cases he:env[i]? with
 | none=>rw [he] at e;cases e
 | some s =>
  rw [he] at e
  obtain ⟨ov,h1,h2⟩:=S.sl i s he
  cases s with
  | fr d'=>cases e;obtain ⟨v,rfl,r⟩:=h2;exact ⟨v,h1,q v F H (.refl S.fh) r⟩
  | sh d'=>cases e
  | un=>cases e
  | ow _=>cases e
  | tab _=>cases e
  | dc _=>cases e
  | nw _=>cases e
  | jk _=>cases e
  | jl _=>cases e⟩
theorem ps_setN (nd:X.N.Nodup) (i:Nat) {x:Str} (ha:PDn X e f) (hi:X.N[i]?=some x:=by kernel_rfl) (hx:locB X.env.scope x=true:=by kernel_rfl) (hs:swapsWith e (some (.Name x pos')) pos.line X.env=pure false:=by rfl)
  (hf:fnB X x=true:=by kernel_rfl):PS1 X r (.Assign [.Name x pos'] e pos) (sSetF i f) :=
 PS1.mk <| PS.of (L2.ps_set nd hi (locB_ok hx) ha.h hs (fnB_ok hf)) fun D0 σ H ⟨BF,BH,F,env,L,o,env',S,e,k⟩=>by
  unfold sSetF at e
  split at e
  ·rename_i d h1
   cases e
   exact ⟨BF,BH,F,env,L,d,S,h1,fun v F' H' z r=>k F' H' _ _ ((S.ext z).set (l:=[]) i ⟨v,rfl,r⟩ (fun a h=>by cases h) (fun a h=>by cases h)) z.ff⟩
  ·cases e
theorem ps_retn (ha:PDn X e f):PS1 X rN (.Return (some e) pos) (sRet f):=PS1.mk <| PS.of (L2.ps_ret ha.h) fun D0 σ H ⟨BF,BH,F,env,L,o,env',S,e,k⟩=>by
 unfold sRet at e
 split at e
 ·rename_i d h1
  cases e
  exact ⟨BF,BH,F,env,L,d,S,h1,fun v F' H' z r=>k F' H' σ L (S.ext z) z.ff v r⟩
 ·cases e
theorem pw_call {k:Nat} {x:Str} {φ:List D→Option D} (G:Cal X.prog X.w X.K X.mg X.base k x rN φ) (hr:L2.Room k X.A) (ha:PAd X .k (e::es) fs) (hg:X.env.kindOf x=some .globalImplicit:=by kernel_rfl) (hdb:(x == ("__debug__":Str))=false:=by kernel_rfl)
  (hn:nst e=true:=by rfl) (hns:nsts es=true:=by rfl):PDw X (.Call (.Name x p) (e::es) [] pos) (eCall φ fs) :=
 ⟨PE.of (pd_callR G hr ha hg hdb (star_cons hn) (star_any hns)) fun σ H Q ⟨BF,BH,F,env,L,d,S,e,q⟩ =>
  ⟨BF,BH,F,env,L,d,S,e,fun v F' H' H0 s0 s1 z r=>q v F' H' z (RepN.mono (cut_anti s1) _ _ r)⟩⟩
theorem ps_ext (i:Nat) {x:Str} {p1 p2 p3 p4:Pos} (ha:PDo X .k e f) (hN:X.N[i]?=some x:=by kernel_rfl) (hv:visB X.env.scope x=true:=by kernel_rfl) (hd:(x == ("__debug__":Str))=false:=by kernel_rfl)
  (hcd:(x == ("__classdict__":Str))=false:=by kernel_rfl) (hst:nst e=true:=by rfl)
  (hbase:attributeBase (.Name x p1) "extend" X.env (eval (.Name x p1) X.env)=eval (.Name x p1) X.env:=by rfl)
  (hline:(p2.endLine == p3.line)=true:=by rfl)
  (hsw:swapsWith (.Call (.Attribute (.Name x p1) "extend" p2) [e] [] p3) none p4.line X.env=pure false:=by rfl) :
  PS1 X r (.Expr (.Call (.Attribute (.Name x p1) "extend" p2) [e] [] p3) p4) (sExt i f) :=
 PS1.mk <| PS.of (L2.ps_expr (L2.pe_bm PySem.F.plainAttrs_list PySem.F.slot_list_extend PySem.F.type_list_extend L2.mt_extend (L2.pe_var hN (visB_ok hv) hd hcd) (L2.pa_cons ha L2.pa_nil (star_one hst)) hbase (by rw [star_few (nsts_one hst)];rfl) hline (star_cons hst) rfl) hsw) fun D0 σ H ⟨BF,BH,F,env,L,o,env',S,e,k⟩=>by
  unfold sExt at e
  split at e
  ·rename_i ds xs he h1
   split at e
   ·rename_i hlen
    cases e
    obtain ⟨p,vs,hσ,hl,hp,r⟩:=sl_ow S he
    refine ⟨_,hσ,tyV_ow hp,BF,BH,F,env,L,xs,S,h1,fun q zs F' H' z h0 hq fq rz=>?_⟩
    have S':=S.ext z
    have r':Reps X.K F' (ds++xs) (vs++zs):=(Reps.mono z.ff _ _ r).append rz
    refine ⟨p,q,vs,zs,rfl,rfl,z.hh _ _ hp,hq,by rw [← r.length,← rz.length];exact Nat.le_trans hlen lim_le,?_⟩
    exact k F' _ σ L (ow_upd S' he hl hσ r') z.ff
   ·cases e
  ·cases e
theorem vals_ints:∀ {ns:List Int} {us:List Value},Vals (ns.map V.int) us→IntsAre us ns
 | [],_,h=>by cases h;exact .nil
 | n::ns,_,h=>by
  cases h with
  | cons h1 h2=>obtain ⟨t,rfl⟩:=h1;exact .cons n t (vals_ints h2)
theorem ints_vals:∀ {ns:List Int} {us:List Value},IntsAre us ns→Vals (ns.map V.int) us
 | [],_,h=>by cases h;exact .nil
 | n::ns,_,h=>by
  cases h with
  | cons _ t h2=>exact .cons ⟨t,rfl⟩ (ints_vals h2)
theorem inv_dr {pins:List (Addr × Obj)} {σ:L2.St} {H:Hp} {s:Shared} (I:Inv X pins σ H s) (dr:Drawn):Inv X pins σ H { s with drawn:=dr }:=⟨I.ok,I.os,I.bare,I.base,I.loc,I.cell,I.free,I.freeC,I.pin,I.hok,I.len⟩
def tSS (ta:TE):TE:=fun σ H Q=>ta σ H fun x H1=>∃ y,[x]=[y]∧∃ (l:Addr) (ns:List Int),y=.ref l∧SqL X.K H1 l (ns.map V.int)∧ns.length≤3000∧(seen ns).length < 64∧∀ p,H1 p=none→Q (.ref p) (upd H1 p (.lst ((srt (seen ns)).map V.int)))
theorem pe_sortset {p3 p4 : Pos} {ta : TE} (T : Bt X.mg) (ha : PE X a ta) (hc : X.calm = true) (hg : X.env.kindOf "sorted" = some .globalImplicit) (hg2 : X.env.kindOf "set" = some .globalImplicit) (hs : nst a = true) :
    PE X (.Call (.Name "sorted" p) [.Call (.Name "set" p3) [a] [] p4] [] pos) (tSS (X := X) ta) := by
  intro pins s σ H Q I h
  refine wpAny_Call_Name_kw (L2.ld_blt I hg T.sorted boot_sorted ?_ (by decide) (by decide))
  refine PyProof.Rows.callWith_builtin1 ?_ (star_cons rfl) rfl
  rw [star_one (env := X.env) (e := .Call (.Name "set" p3) [a] [] p4) rfl]
  show wpAny _ _ (spliced ((false, eval (.Call (.Name "set" p3) [a] [] p4) X.env) :: [])) _ _ s
  refine Calls.spliced_cons (L2.thn (Q := fun u s1 => ∃ (q : Addr) (ns : List Int) (H1 : Hp) (s0 : Shared) (h' : Heap) (tk : Nat), u = .ref q ∧ s1 = { s0 with heap := h', toks := tk } ∧ Inv X pins σ H1 s0 ∧ (∀ b o, s0.heap.get? b = some o → h'.get? b = some o) ∧ s0.heap.objs.size ≤ h'.objs.size ∧
      SetX X.prog X.w h' q (!byT X.w) (seen ns) ∧ (seen ns).length < 64 ∧ ∀ p, H1 p = none → Q (.ref p) (upd H1 p (.lst ((srt (seen ns)).map V.int)))) ?inner fun u s1 hu => Calls.spliced_nil ?outer)
  case inner =>
    refine wpAny_Call_Name_kw (L2.ld_blt I hg2 T.set PyProof.Rows.boot_set ?_ (by decide) (by decide))
    refine PyProof.Rows.callWith_type1 (L2.thn (L2.pa_cons ha L2.pa_nil (star_one hs) p4 pins s σ H (fun xs H1 => ∃ x, xs = [x] ∧ ∃ (l : Addr) (ns : List Int), x = .ref l ∧ SqL X.K H1 l (ns.map V.int) ∧ ns.length ≤ 3000 ∧ (seen ns).length < 64 ∧ ∀ p, H1 p = none → Q (.ref p) (upd H1 p (.lst ((srt (seen ns)).map V.int)))) I h) fun us s1 ⟨vs, H1, I1, r1, q1⟩ => ?_) (star_cons hs) rfl
    obtain ⟨x, rfl, l, ns, rfl, hS, h3, h64, q⟩ := q1
    obtain ⟨u, rfl, ru⟩ := r1.one
    cases ru
    obtain ⟨its, r, p, z⟩ := I1.list hS
    have hi := vals_ints r
    refine call_set (I1.ok.hd hc) p.isList (by simpa using hi) (by rw [show scanBound = 4096 from rfl]; omega) fun h' tk hX hk => ?_
    obtain ⟨o, es, ep, t, ho, _⟩ := id hX
    have hlt : s1.heap.objs.size < h'.objs.size := Heap.lt_size ho
    exact ⟨_, ns, H1, s1, h', tk, rfl, rfl, I1, fun b o e => hk b o (Heap.lt_size e) e, Nat.le_of_lt hlt, hX, h64, q⟩
  case outer =>
    obtain ⟨q, ns, H1, s0, h', tk, rfl, rfl, I1, hk, hsz, hX, h64, k⟩ := hu
    refine sorted_set (s := { s0 with heap := h', toks := tk }) (I1.ok.hd hc) hX h64 fun h2 dr tk2 D vs js c up hD hg hv hj hle => ?_
    have ej : js = srt (seen ns) := srt_uniq hj hle
    have I2 := (inv_dr I1 dr).laid (a := D) (o := .lst ((srt (seen ns)).map V.int)) (h' := h2) (t' := tk2) (fun b u e => up b u (hk b u e)) (Nat.le_trans hsz hD) ⟨by rw [List.length_map, (srt_perm _).length_eq, sizeLine_eq]; omega, vs, c, ej ▸ ints_vals hv, hg⟩
    exact ⟨.ref D, _, I2, rfl, k D (I1.hok.fresh (Nat.le_trans hsz hD))⟩
theorem ints_of:∀ {xs:List D} {ns:List Int},ints? xs=some ns→xs=ns.map D.int
 | [],ns,h=>by simp only [ints?] at h;cases h;rfl
 | .int i::xs,ns,h=>by
  simp only [ints?] at h
  split at h
  ·rename_i r hr;cases h;rw [ints_of hr];rfl
  ·cases h
 | .non::_,_,h=>by simp [ints?] at h
 | .bl _::_,_,h=>by simp [ints?] at h
 | .str _::_,_,h=>by simp [ints?] at h
 | .lst _::_,_,h=>by simp [ints?] at h
 | .tup _::_,_,h=>by simp [ints?] at h
 | .dct _::_,_,h=>by simp [ints?] at h
theorem reps_intsV {K:PySem.W.Frag} {H:Hp}:∀ {ns:List Int} {vs:List V},Reps K H (ns.map D.int) vs→vs=ns.map V.int
 | [],vs,h=>by simpa [Reps] using h
 | n::ns,vs,h=>by
  simp only [List.map_cons,Reps] at h
  obtain ⟨v,r,rfl,h2,h3⟩:=h
  rw [rep_int h2,reps_intsV h3,List.map_cons]
theorem fSS_inv {x d:D} (h:fSortSet x=some d):∃ ns,x=.lst (ns.map D.int)∧ns.length≤3000∧(seen ns).length < 64∧d=.lst ((srt (seen ns)).map D.int):=by
 unfold fSortSet at h
 split at h
 ·rename_i xs
  split at h
  ·rename_i ns hn
   split at h
   ·rename_i hl;cases h;exact ⟨ns,by rw [ints_of hn],hl.1,hl.2,rfl⟩
   ·cases h
  ·cases h
 ·cases h
theorem po_sortset {p3 p4:Pos} (T:Bt X.mg) (ha:PD X m1 a f) (hc:X.calm=true:=by rfl) (hg:X.env.kindOf "sorted"=some .globalImplicit:=by kernel_rfl) (hg2:X.env.kindOf "set"=some .globalImplicit:=by kernel_rfl) (hs:nst a=true:=by rfl) :
  PDo X m (.Call (.Name "sorted" p) [.Call (.Name "set" p3) [a] [] p4] [] pos) (eF1 fSortSet f) :=
 PE.of (pe_sortset T ha.h hc hg hg2 hs) fun σ H Q ⟨BF,BH,F,env,L,ds,S,e,q⟩=>by
  unfold eF1 at e
  split at e
  ·rename_i x hx
   obtain ⟨ns,rfl,h3,h64,e2⟩:=fSS_inv e
   refine ⟨BF,BH,F,env,L,_,S,hx,fun v F' H' z rx=>?_⟩
   simp only [Rep] at rx
   obtain ⟨l,vs,rfl,hS,hr⟩:=rx
   have ev:=reps_intsV hr
   subst ev
   refine ⟨_,rfl,l,ns,rfl,?_,h3,h64,fun p hp=>?_⟩
   ·cases m1 with
    | r=>exact hS
    | k=>exact z.fh.seq hS
    | f=>exact (cut_sub.trans z.fh).seq hS
   ·obtain ⟨y2,h0,h2,s⟩:=own_new (m:=m) S z hp (HO.lst ((srt (seen ns)).map V.int))
    cases e2
    refine q p _ F' _ y2 h0 upd_same h2 ?_
    exact Reps.ints _
  ·cases e
theorem fSS_flat {env:Env} {d:D} (h:eF1 fSortSet f env=some d):∃ ds,d=.lst ds∧ds.all scalD=true:=by
 unfold eF1 at h
 split at h
 ·obtain ⟨ns,_,_,_,rfl⟩:=fSS_inv h
  exact ⟨_,rfl,by simp [List.all_map,scalD,Function.comp_def]⟩
 ·cases h
theorem pw_sortset {p3 p4:Pos} (T:Bt X.mg) (ha:PD X m1 a f) (hc:X.calm=true:=by rfl) (hg:X.env.kindOf "sorted"=some .globalImplicit:=by kernel_rfl) (hg2:X.env.kindOf "set"=some .globalImplicit:=by kernel_rfl) (hs:nst a=true:=by rfl) :
  PDw X (.Call (.Name "sorted" p) [.Call (.Name "set" p3) [a] [] p4] [] pos) (eF1 fSortSet f):=PDo.w (m:=.k) (po_sortset T ha hc hg hg2 hs) fun env d h=>fSS_flat h
theorem po_listO (i:Nat) {x:Str} {p1:Pos} (T:Bt X.mg) (hg:X.env.kindOf "list"=some .globalImplicit:=by kernel_rfl) (hN:X.N[i]?=some x:=by kernel_rfl) (hv:visB X.env.scope x=true:=by kernel_rfl) (hd:(x == ("__debug__":Str))=false:=by kernel_rfl)
  (hcd:(x == ("__classdict__":Str))=false:=by kernel_rfl):PDo X .k (.Call (.Name "list" p) [.Name x p1] [] pos) (eF1 fList (eVarO i)) :=
 PE.of (L2.pe_callTy L2.call_list_of hg T.list (by decide +kernel) (L2.pa_cons (L2.pe_var hN (visB_ok hv) hd hcd) L2.pa_nil (star_one rfl)) (by decide) (by decide) (star_cons rfl) rfl) fun σ H Q ⟨BF,BH,F,env,L,ds,S,e,q⟩=>by
  have fin:∀ (p:Addr) (vs:List V),SqL X.K H p vs∨SqT X.K H p vs→Reps X.K F ds vs→σ[i]?=some (some (.ref p))→∃ v,σ[i]?=some (some v)∧∃ (p:Addr) (vs:List V),[v]=[.ref p]∧(SqL X.K H p vs∨SqT X.K H p vs)∧∀ l,H l=none→Q (.ref l) (upd H l (.lst vs)):=fun p vs h1 h2 h3 =>
   ⟨_,h3,p,vs,rfl,h1,fun l hl=>by
    obtain ⟨y,h0,h2',s⟩:=own_new (m:=.k) S (.refl S.fh) hl (HO.lst vs)
    exact q l vs F _ y h0 upd_same h2' (Reps.mono s _ _ h2)⟩
  unfold eF1 eVarO at e
  cases he:env[i]? with
  | none=>rw [he] at e;cases e
  | some sl =>
   rw [he] at e
   obtain ⟨ov,h1,h2⟩:=S.sl i sl he
   have sh:∀ (d:D) (v:V),ov=some v→Rep X.K F d v→fList d=some (.lst ds)→∃ v,σ[i]?=some (some v)∧∃ (p:Addr) (vs:List V),[v]=[.ref p]∧(SqL X.K H p vs∨SqT X.K H p vs)∧∀ l,H l=none→Q (.ref l) (upd H l (.lst vs)):=by
    intro d v ev rv hl
    subst ev
    unfold fList at hl
    split at hl
    ·cases hl
     simp only [Rep] at rv
     obtain ⟨p,vs,rfl,s1,t1⟩:=rv
     exact fin p vs (.inl (S.fh.seq s1)) t1 h1
    ·cases hl
     simp only [Rep] at rv
     obtain ⟨p,vs,rfl,s1,t1⟩:=rv
     exact fin p vs (.inr (seqT S.fh s1)) t1 h1
    ·cases hl
   cases sl with
   | un=>cases e
   | dc _=>cases e
   | sh d=>obtain ⟨v,hv',rv⟩:=h2;exact sh d v hv' rv e
   | fr d=>obtain ⟨v,hv',rv⟩:=h2;exact sh d v hv' (RepN.rep _ _ (RepN.mono cut_sub _ _ rv)) e
   | ow ds' =>
    obtain ⟨p,vs,rfl,_,h3,r⟩:=h2
    have e':some (D.lst ds')=some (.lst ds):=e
    cases e'
    exact fin p vs (.inl (.inl (.inl h3))) r h1
   | tab rs=>cases e
   | nw ds' =>
    obtain ⟨p,vs,rfl,_,h3,r⟩:=h2
    have e':some (D.lst ds')=some (.lst ds):=e
    cases e'
    exact fin p vs (.inl (.inl (.inl h3))) (RepsN.reps _ _ (RepsN.mono cut_sub _ _ r)) h1
   | jk _=>cases e
   | jl _=>cases e
theorem pd_listO (i:Nat) {x:Str} {p1:Pos} (T:Bt X.mg) (hg:X.env.kindOf "list"=some .globalImplicit:=by kernel_rfl) (hN:X.N[i]?=some x:=by kernel_rfl) (hv:visB X.env.scope x=true:=by kernel_rfl) (hd:(x == ("__debug__":Str))=false:=by kernel_rfl)
  (hcd:(x == ("__classdict__":Str))=false:=by kernel_rfl):PD X .k (.Call (.Name "list" p) [.Name x p1] [] pos) (eF1 fList (eVarO i)):=(po_listO i T hg hN hv hd hcd).d fun env d h=>fList_inv h
end
end PV
set_option linter.all false
set_option Elab.async false
set_option maxRecDepth 100000
set_option maxHeartbeats 4000000
namespace PV
open PySem PySem.W PyProof.Rows
section
variable {n:Nat} {key:Nat→List Int}
def Kp (key:Nat→List Int) (p:Array Nat) (i:Nat):List Int:=key (p.getD i 0)
def Upp (key:Nat→List Int) (p:Array Nat) (m:Nat):Prop:=∀ i j,i≤j→j < m→leL (Kp key p i) (Kp key p j)
def Dwn (key:Nat→List Int) (p:Array Nat) (m:Nat):Prop:=∀ i j,i≤j→j < m→leL (Kp key p j) (Kp key p i)
structure Val (n:Nat) (p:Array Nat):Prop where
 sz:p.size=n
 pm:p.toList.Perm (List.range n)
theorem Val.lt (h:Val n p) {i:Nat} (hi:i < n):p.getD i 0 < n:=by
 have hs:i < p.size:=by rw [h.sz];exact hi
 rw [show p.getD i 0=p[i] by simp [Array.getD,hs]]
 have:=h.pm.mem_iff.mp (Array.getElem_mem_toList hs)
 simpa using this
theorem Val.rev (h:Val n p) (i j:Nat):Val n (kas_rev p i j):=⟨(mirror_size _ _ _ _).trans h.sz,(Array.perm_iff_toList_perm.mp (mirror_perm _ _ _ _)).trans h.pm⟩
theorem Val.bub (h:Val n p) (i j:Nat):Val n (bubble p i j):=⟨(bubble_size _ _ _).trans h.sz,(Array.perm_iff_toList_perm.mp (bubble_perm _ _ _)).trans h.pm⟩
theorem getD_eq {p:Array Nat} {i:Nat}:p.getD i 0=(p[i]?).getD 0:=by simp [Array.getD];split <;> simp_all
theorem Kp_rev (h:Val n p) {i j k:Nat} (hj:j≤n):Kp key (kas_rev p i j) k=if i≤k∧k < j then Kp key p (i + j - 1 - k) else Kp key p k:=by
 unfold Kp kas_rev
 rw [getD_eq,getElem?_mirror_all (by rw [h.sz];exact hj)]
 split
 ·rw [getD_eq]
 ·rw [getD_eq]
theorem Kp_bub (h:Val n p) {src d k:Nat} (hs:src < n) (hd:d≤src):Kp key (bubble p src d) k=if k=src - d then Kp key p src else if src - d < k∧k≤src then Kp key p (k - 1) else Kp key p k:=by
 unfold Kp
 rw [getD_eq,getElem?_bubble (by rw [h.sz];exact hs) d hd]
 split
 ·rw [getD_eq]
 ·split
  ·rw [getD_eq]
  ·rw [getD_eq]
theorem Upp.snoc {p:Array Nat} {m:Nat} (hm:1≤m) (h:Upp key p m) (k:leL (Kp key p (m - 1)) (Kp key p m)):Upp key p (m + 1):=fun i j hij hj=>by
 rcases Nat.lt_or_ge j m with h1 | h1
 ·exact h i j hij h1
 ·have:j=m:=by omega
  subst this
  rcases Nat.lt_or_ge i j with h2 | h2
  ·exact (h i (j - 1) (by omega) (by omega)).trans k
  ·have:i=j:=by omega
   subst this;exact leL.refl _
theorem Dwn.snoc {p:Array Nat} {m:Nat} (hm:1≤m) (h:Dwn key p m) (k:leL (Kp key p m) (Kp key p (m - 1))):Dwn key p (m + 1):=fun i j hij hj=>by
 rcases Nat.lt_or_ge j m with h1 | h1
 ·exact h i j hij h1
 ·have:j=m:=by omega
  subst this
  rcases Nat.lt_or_ge i j with h2 | h2
  ·exact k.trans (h i (j - 1) (by omega) (by omega))
  ·have:i=j:=by omega
   subst this;exact leL.refl _
def Alk (key:Nat→List Int) (p:Array Nat) (m q:Nat):Prop:=∀ i,m - (q + 1)≤i→i < m→Kp key p i=Kp key p (m - 1)
theorem Dwn.rev (hv:Val n p) {m q:Nat} (hq:q + 1≤m) (hm:m≤n) (h:Dwn key p m) (a:Alk key p m q):Dwn key (kas_rev p (m - (q + 1)) m) m∧(∀ k,k < m→Kp key (kas_rev p (m - (q + 1)) m) k=Kp key p k)∧∀ k,m≤k→Kp key (kas_rev p (m - (q + 1)) m) k=Kp key p k:=by
 have e:∀ k,k < m→Kp key (kas_rev p (m - (q + 1)) m) k=Kp key p k:=fun k hk=>by
  rw [Kp_rev hv hm]
  split
  ·rename_i hc
   rw [a _ (by omega) (by omega),a k hc.1 hc.2]
  ·rfl
 refine ⟨fun i j hij hj=>?_,e,fun k hk=>?_⟩
 ·rw [e i (by omega),e j hj];exact h i j hij hj
 ·rw [Kp_rev hv hm,if_neg (by omega)]
theorem Dwn.up (hv:Val n p) {m:Nat} (hm:m≤n) (h:Dwn key p m):Upp key (kas_rev p 0 m) m:=fun i j hij hj=>by
 rw [Kp_rev hv hm,Kp_rev hv hm,if_pos (by omega),if_pos (by omega)]
 exact h _ _ (by omega) (by omega)
end
section
variable {n:Nat} {key:Nat→List Int} {cmp:Nat→Nat→(Bool→Shared→Prop)→Shared→Prop} {P:Shared→Prop}
variable (hc:∀ i j,i < n→j < n→∀ (C:Bool→Shared→Prop) s,P s→(∀ s',P s'→C (ltL (key i) (key j)) s')→cmp i j C s)
include hc
theorem asc_w {p:Array Nat} (hv:Val n p) {Q:Nat→Shared→Prop}:∀ (f m:Nat) (s:Shared),1≤m→m + f≤n→Upp key p m→P s →
  (∀ m' s',m≤m'→m'≤m + f→Upp key p m'→(m' < m + f→ltL (Kp key p m') (Kp key p (m' - 1))=true)→P s'→Q m' s')→(kas_asc p f m).kasWp cmp Q s:=by
 intro f
 induction f with
 | zero=>intro m s h1 h2 hu hp hQ;exact hQ m s (Nat.le_refl _) (Nat.le_refl _) hu (fun h=>by omega) hp
 | succ f ih =>
  intro m s h1 h2 hu hp hQ
  unfold kas_asc
  refine hc _ _ (hv.lt (by omega)) (hv.lt (by omega)) _ s hp fun s' hp'=>?_
  cases hl:ltL (Kp key p m) (Kp key p (m - 1)) with
  | true =>
   have hl':ltL (key (p.getD m 0)) (key (p.getD (m - 1) 0))=true:=hl
   simp only [hl',↓reduceIte]
   exact hQ m s' (Nat.le_refl _) (by omega) hu (fun _=>hl) hp'
  | false =>
   have hl':ltL (key (p.getD m 0)) (key (p.getD (m - 1) 0))=false:=hl
   simp only [hl',Bool.false_eq_true,↓reduceIte]
   exact ih (m + 1) s' (by omega) (by omega) (hu.snoc h1 hl) hp' fun m' s2 a b c d e=>hQ m' s2 (by omega) (by omega) c (fun h=>d (by omega)) e
theorem desc_w {Q:Array Nat × Nat × Nat→Shared→Prop}:∀ (f:Nat) (p:Array Nat) (m q:Nat) (s:Shared),Val n p→m + f≤n→q + 1≤m→Dwn key p m→Alk key p m q→P s →
  (∀ p' m' q' s',Val n p'→m≤m'→m'≤n→q' + 1≤m'→Dwn key p' m'→Alk key p' m' q'→P s'→Q (p',m',q') s')→(kas_desc f p m q).kasWp cmp Q s:=by
 intro f
 induction f with
 | zero=>intro p m q s hv h2 hq hd ha hp hQ;exact hQ p m q s hv (Nat.le_refl _) (by omega) hq hd ha hp
 | succ f ih =>
  intro p m q s hv h2 hq hd ha hp hQ
  unfold kas_desc
  refine hc _ _ (hv.lt (by omega)) (hv.lt (by omega)) _ s hp fun s' hp'=>?_
  cases hl:ltL (Kp key p m) (Kp key p (m - 1)) with
  | true =>
   have hl':ltL (key (p.getD m 0)) (key (p.getD (m - 1) 0))=true:=hl
   simp only [hl',↓reduceIte]
   have one:∀ p',Alk key p' (m + 1) 0:=fun p' i h3 h4=>by rw [show i=m + 1 - 1 by omega]
   by_cases hq0:q > 0
   ·rw [if_pos hq0]
    obtain ⟨r1,r2,r3⟩:=hd.rev hv hq (by omega) ha
    refine ih _ (m + 1) 0 s' (hv.rev _ _) (by omega) (by omega) (r1.snoc (by omega) ?_) (one _) hp' fun p' m' q' s2 a b c d e g k=>hQ p' m' q' s2 a (by omega) c d e g k
    rw [r3 m (Nat.le_refl _),r2 (m - 1) (by omega)]
    exact leL.of hl
   ·rw [if_neg hq0]
    exact ih p (m + 1) 0 s' hv (by omega) (by omega) (hd.snoc (by omega) (leL.of hl)) (one _) hp' fun p' m' q' s2 a b c d e g k=>hQ p' m' q' s2 a (by omega) c d e g k
  | false =>
   have hl':ltL (key (p.getD m 0)) (key (p.getD (m - 1) 0))=false:=hl
   simp only [hl',Bool.false_eq_true,↓reduceIte]
   refine hc _ _ (hv.lt (by omega)) (hv.lt (by omega)) _ s' hp' fun s2 hp2=>?_
   cases hk:ltL (Kp key p (m - 1)) (Kp key p m) with
   | true =>
    have hk':ltL (key (p.getD (m - 1) 0)) (key (p.getD m 0))=true:=hk
    simp only [hk',↓reduceIte]
    exact hQ p m q s2 hv (Nat.le_refl _) (by omega) hq hd ha hp2
   | false =>
    have hk':ltL (key (p.getD (m - 1) 0)) (key (p.getD m 0))=false:=hk
    simp only [hk',Bool.false_eq_true,↓reduceIte]
    have e:Kp key p m=Kp key p (m - 1):=ltL_tot _ _ hl hk
    refine ih p (m + 1) (q + 1) s2 hv (by omega) (by omega) (hd.snoc (by omega) (by rw [e];exact leL.refl _)) (fun i h3 h4=>?_) hp2 fun p' m' q' s3 a b c d e g k=>hQ p' m' q' s3 a (by omega) c d e g k
    rw [show m + 1 - 1=m by omega,e]
    rcases Nat.lt_or_ge i m with h5 | h5
    ·exact ha i (by omega) h5
    ·rw [show i=m by omega,e]
theorem tail_w {p:Array Nat} (hv:Val n p) {Q:Nat × Array Nat→Shared→Prop} {m:Nat} {s:Shared} (h1:1≤m) (hm:m≤n) (hd:Dwn key p m) (hp:P s) (hQ:∀ m' p' s',Val n p'→1≤m'→m'≤n→Upp key p' m'→P s'→Q (m',p') s'):(kas_tail3 m n p).kasWp cmp Q s:=by
 unfold kas_tail3
 rw [KasT.kasWp_bind]
 exact asc_w hc (hv.rev 0 m) (n - m) m s h1 (by omega) (hd.up hv hm) hp fun m' s' a b c d e=>hQ m' _ s' (hv.rev 0 m) (by omega) (by omega) c e
theorem part_w {p:Array Nat} (hv:Val n p) {Q:Nat × Array Nat→Shared→Prop} {m:Nat} {s:Shared} (h1:1≤m) (hm:m + 1≤n) (hd:Dwn key p (m + 1)) (hp:P s) (hQ:∀ m' p' s',Val n p'→1≤m'→m'≤n→Upp key p' m'→P s'→Q (m',p') s'):(kas_descPart m n p).kasWp cmp Q s:=by
 unfold kas_descPart
 rw [KasT.kasWp_bind]
 refine desc_w hc (n - (m + 1)) p (m + 1) 0 s hv (by omega) (by omega) hd (fun i h3 h4=>by rw [show i=m + 1 - 1 by omega]) hp fun p' m' q' s' a b c d e g k=>?_
 by_cases hq:q' > 0
 ·dsimp only
  rw [if_pos hq]
  exact tail_w hc (a.rev _ _) (by omega) c (e.rev a d c g).1 k hQ
 ·dsimp only
  rw [if_neg hq]
  exact tail_w hc a (by omega) c e k hQ
theorem count_w {p:Array Nat} (hv:Val n p) (h2:2≤n) {Q:Nat × Array Nat→Shared→Prop} {s:Shared} (hp:P s) (hQ:∀ m' p' s',Val n p'→1≤m'→m'≤n→Upp key p' m'→P s'→Q (m',p') s'):(kas_count n p).kasWp cmp Q s:=by
 unfold kas_count
 rw [KasT.kasWp_bind]
 refine asc_w hc hv (n - 1) 1 s (Nat.le_refl _) (by omega) (fun i j hij hj=>by rw [show i=j by omega];exact leL.refl _) hp fun m s' a b c d e=>?_
 by_cases hm:(m == n)=true
 ·rw [if_pos hm]
  exact hQ m p s' hv a (by omega) c e
 ·rw [if_neg hm]
  have hm':m≠n:=by simpa using hm
  have hlt:=d (by omega)
  by_cases h3:m > 1
  ·rw [if_pos h3]
   refine hc _ _ (hv.lt (by omega)) (hv.lt (by omega)) _ s' e fun s2 hp2=>?_
   cases hl:ltL (Kp key p 0) (Kp key p (m - 1)) with
   | true =>
    have hl':ltL (key (p.getD 0 0)) (key (p.getD (m - 1) 0))=true:=hl
    simp only [hl',↓reduceIte]
    exact hQ m p s2 hv a (by omega) c hp2
   | false =>
    have hl':ltL (key (p.getD 0 0)) (key (p.getD (m - 1) 0))=false:=hl
    simp only [hl',Bool.false_eq_true,↓reduceIte]
    have same:∀ i,i < m→Kp key p i=Kp key p (m - 1):=fun i hi=>leL.anti (c i (m - 1) (by omega) (by omega)) (leL.trans (show leL (Kp key p (m - 1)) (Kp key p 0) from hl) (c 0 i (by omega) hi))
    have hr:∀ k,Kp key (kas_rev p 0 m) k=Kp key p k:=fun k=>by
     rw [Kp_rev hv (by omega)]
     split
     ·rename_i hk;rw [same _ (by omega),same k (by omega)]
     ·rfl
    refine part_w hc (hv.rev 0 m) a (by omega) (fun i j hij hj=>?_) hp2 hQ
    rw [hr,hr]
    rcases Nat.lt_or_ge j m with h5 | h5
    ·rw [same i (by omega),same j h5];exact leL.refl _
    ·rw [show j=m by omega]
     rcases Nat.lt_or_ge i m with h6 | h6
     ·rw [same i h6];exact leL.of hlt
     ·rw [show i=m by omega];exact leL.refl _
  ·rw [if_neg h3]
   have e1:m=1:=by omega
   subst e1
   refine part_w hc hv (by omega) (by omega) (fun i j hij hj=>?_) e hQ
   rcases Nat.lt_or_ge j 1 with h5 | h5
   ·rw [show i=j by omega];exact leL.refl _
   ·rcases Nat.lt_or_ge i 1 with h6 | h6
    ·rw [show i=0 by omega,show j=1 by omega];exact leL.of hlt
    ·rw [show i=j by omega];exact leL.refl _
theorem place_w {p:Array Nat} (hv:Val n p) {k:Nat} (hk:k < n) {Q:Nat→Shared→Prop} (hu:Upp key p k):∀ (f l r:Nat) (s:Shared),r - l≤f→l≤r→r≤k→(∀ i,i < l→leL (Kp key p i) (Kp key p k))→(∀ i,r≤i→i < k→leL (Kp key p k) (Kp key p i))→P s →
  (∀ l' s',l'≤k→(∀ i,i < l'→leL (Kp key p i) (Kp key p k))→(∀ i,l'≤i→i < k→leL (Kp key p k) (Kp key p i))→P s'→Q l' s')→(kas_place p k f l r).kasWp cmp Q s:=by
 intro f
 induction f with
 | zero =>
  intro l r s h1 h2 h3 ha hb hp hQ
  have:l=r:=by omega
  subst this
  exact hQ l s h3 ha hb hp
 | succ f ih =>
  intro l r s h1 h2 h3 ha hb hp hQ
  unfold kas_place
  by_cases hlr:l ≥ r
  ·rw [if_pos hlr]
   have:l=r:=by omega
   subst this
   exact hQ l s h3 ha hb hp
  ·rw [if_neg hlr]
   refine hc _ _ (hv.lt hk) (hv.lt (by omega)) _ s hp fun s' hp'=>?_
   cases hl:ltL (Kp key p k) (Kp key p ((l + r) / 2)) with
   | true =>
    have hl':ltL (key (p.getD k 0)) (key (p.getD ((l + r) / 2) 0))=true:=hl
    simp only [hl',↓reduceIte]
    exact ih l ((l + r) / 2) s' (by omega) (by omega) (by omega) ha (fun i h5 h6=>(leL.of hl).trans (hu _ i h5 h6)) hp' hQ
   | false =>
    have hl':ltL (key (p.getD k 0)) (key (p.getD ((l + r) / 2) 0))=false:=hl
    simp only [hl',Bool.false_eq_true,↓reduceIte]
    refine ih ((l + r) / 2 + 1) r s' (by omega) (by omega) h3 (fun i h5=>?_) hb hp' hQ
    exact (hu i ((l + r) / 2) (by omega) (by omega)).trans hl
theorem bin_w {Q : Array Nat → Shared → Prop} : ∀ (f : Nat) (p : Array Nat) (k : Nat) (s : Shared), Val n p → k + f = n → Upp key p k → P s → (∀ p' s', Val n p' → Upp key p' n → P s' → Q p' s') → (kas_bin f p k).kasWp cmp Q s := by
  intro f
  induction f with
  | zero => intro p k s hv h1 hu hp hQ; have : k = n := by omega
            subst this; exact hQ p s hv hu hp
  | succ f ih =>
    intro p k s hv h1 hu hp hQ
    unfold kas_bin
    rw [KasT.kasWp_bind]
    refine place_w hc hv (by omega) hu k 0 k s (by omega) (by omega) (Nat.le_refl _) (fun i h => by omega) (fun i h h' => by omega) hp fun l s' hl ha hb hp' => ?_
    refine ih _ (k + 1) s' (hv.bub _ _) (by omega) (fun i j hij hj => ?_) hp' hQ
    rw [Kp_bub hv (by omega) (by omega), Kp_bub hv (by omega) (by omega)]
    have e : k - (k - l) = l := by omega
    rw [e]
    by_cases i1 : i = l
    · rw [if_pos i1]
      by_cases j1 : j = l
      · rw [if_pos j1]; exact leL.refl _
      · rw [if_neg j1, if_pos (by omega)]
        exact hb (j - 1) (by omega) (by omega)
    · rw [if_neg i1]
      by_cases i2 : l < i ∧ i ≤ k
      · rw [if_pos i2, if_neg (by omega), if_pos (by omega)]
        exact hu _ _ (by omega) (by omega)
      · rw [if_neg i2]
        by_cases j1 : j = l
        · rw [if_pos j1]; exact ha i (by omega)
        · rw [if_neg j1]
          by_cases j2 : l < j ∧ j ≤ k
          · rw [if_pos j2]; exact hu _ _ (by omega) (by omega)
          · rw [if_neg j2]; exact hu _ _ hij (by omega)
theorem sort_w (h2:2≤n) {Q:Array Nat→Shared→Prop} {s:Shared} (hp:P s) (hQ:∀ p' s',Val n p'→Upp key p' n→P s'→Q p' s'):(kas_sort n).kasWp cmp Q s:=by
 unfold kas_sort
 rw [KasT.kasWp_bind]
 have v0:Val n (List.toArray (List.range n)):=⟨by simp,by simp⟩
 refine count_w hc v0 h2 hp fun m p s' hv h1 hm hu hp'=>?_
 dsimp only
 by_cases h:m < n
 ·rw [if_pos h]
  exact bin_w hc _ p (max m 1) s' hv (by omega) (by rw [show max m 1=m by omega];exact hu) hp' hQ
 ·rw [if_neg h]
  exact hQ p s' hv (by rw [show n=m by omega];exact hu) hp'
end
end PV
set_option linter.all false
set_option Elab.async false
set_option maxRecDepth 100000
set_option maxHeartbeats 4000000
namespace PV
open PySem PySem.W PyProof.Rows PySem.MeetsSeq PySem.MeetsSeq3
theorem ints_at {vs:List Value} {ns:List Int} (h:IntsAre vs ns) {i:Nat} (hi:i < vs.length):∃ t,vs[i]=.int (ns.getD i 0) t∧i < ns.length:=by
 obtain ⟨h1,rfl⟩:=ints_iff.mp h
 have:=h1 _ (List.getElem_mem hi)
 cases e:vs[i] with
 | int k t=>exact ⟨t,by simp [List.getD,hi,e,valI],by simpa using hi⟩
 | _=>rw [e] at this;exact this.elim
theorem ints_len {vs:List Value} {ns:List Int} (h:IntsAre vs ns):vs.length=ns.length:=by rw [(ints_iff.mp h).2];simp
theorem drop_cons' {ns:List Int} {i:Nat} (hi:i < ns.length):ns.drop i=ns.getD i 0::ns.drop (i + 1):=by
 rw [List.drop_eq_getElem_cons hi,List.getD_eq_getElem?_getD,List.getElem?_eq_getElem hi];rfl
theorem lt_loopM (l b:Addr) (xs ys:Array Value) (n n2:Nat) (dd dd2:Option Addr) (sl sl2:Array (Option Value)) (nx ny:List Int) (hx:IntsAre xs.toList nx) (hy:IntsAre ys.toList ny) (k:Nat) :
  ∀ i:Nat,xs.size - i=k→i≤xs.size→i≤ys.size→Meets (Builtin.«list.__eq__.loop» ⟨[.ref l,.ref b,rawInt i,rawInt 0],[]⟩)
   (fun A R s=>s.heap.get? l=some { cls:=.type "list",dict:=dd,data:=.seq xs n,slots:=sl }∧s.heap.get? b=some { cls:=.type "list",dict:=dd2,data:=.seq ys n2,slots:=sl2 } ∧
    R (.ok (.ret (.bool (ltL (nx.drop i) (ny.drop i))))) s):=by
 have lx:xs.size=nx.length:=by simpa using ints_len hx
 have ly:ys.size=ny.length:=by simpa using ints_len hy
 induction k with
 | zero =>
  intro i hk h1 h2 prog w A R s h
  obtain ⟨hp,g,d,tk,os⟩:=s;obtain ⟨hl,hb,h⟩:=h
  wp_walk using wpAny_loadPart' hl,wpAny_loadPart' hb
  have hi1:xs[((i:Nat):Int).toNat]?=none:=by simp;omega
  rw [hi1]
  have e0:nx.drop i=[]:=by simp;omega
  rw [e0] at h
  have fin:ltL [] (ny.drop i)=decide (xs.size < ys.size):=by
   rcases Nat.lt_or_ge i ys.size with h5 | h5
   ·rw [drop_cons' (by omega)];simp only [ltL];exact (decide_eq_true (by omega)).symm
   ·rw [List.drop_of_length_le (by omega)];simp only [ltL];exact (decide_eq_false (by omega)).symm
  rw [fin] at h
  wp_walk using wpAny_loadPart' hl,wpAny_loadPart' hb
  exact h
 | succ k ih =>
  intro i hk h1 h2 prog w A R s h
  obtain ⟨hp,g,d,tk,os⟩:=s;obtain ⟨hl,hb,h⟩:=h
  wp_walk using wpAny_loadPart' hl,wpAny_loadPart' hb
  have hlt:i < xs.size:=by omega
  have hi1:xs[((i:Nat):Int).toNat]?=some xs[i]:=by simp [hlt]
  obtain ⟨t1,q1,_⟩:=ints_at hx (i:=i) (by simpa using hlt)
  rcases Nat.lt_or_ge i ys.size with hlt2 | hge
  ·have hi2:ys[((i:Nat):Int).toNat]?=some ys[i]:=by simp [hlt2]
   obtain ⟨t2,q2,_⟩:=ints_at hy (i:=i) (by simpa using hlt2)
   have q1':xs[i]=.int (nx.getD i 0) t1:=by simpa using q1
   have q2':ys[i]=.int (ny.getD i 0) t2:=by simpa using q2
   have hc:((i:Int) + 1)=((i + 1:Nat):Int):=by push_cast;rfl
   rw [drop_cons' (ns:=nx) (by omega),drop_cons' (ns:=ny) (by omega)] at h
   rw [hi1,hi2,q1',q2']
   refine wpAny_bind (wpAny_eqBool_int ?_)
   by_cases e:nx.getD i 0=ny.getD i 0
   ·rw [if_pos (by simpa using e)]
    simp only [ltL,if_pos e] at h
    wp_walk
    rw [hc]
    exact ⟨plainId_quiet plain_eq_loop _,codeAny_builtin entry_eq_loop (by
     rw [Around.under_plainId plain_eq_loop _]
     exact ih (i + 1) (by omega) (by omega) (by omega) prog w A R _ ⟨hl,hb,h⟩)⟩
   ·rw [if_neg (by simpa using e)]
    simp only [ltL,if_neg e] at h
    wp_walk using wpAny_loadPart' hl,wpAny_loadPart' hb
    rw [hi1,hi2,q1',q2']
    refine wpAny_bind (m:=richCompare .Lt _ _) (wpAny_lt_int (wpAny_pure h))
  ·have hi2:ys[((i:Nat):Int).toNat]?=none:=Array.getElem?_eq_none (by rw [Int.toNat_natCast];exact hge)
   rw [drop_cons' (ns:=nx) (by omega),List.drop_of_length_le (l:=ny) (by omega)] at h
   rw [hi1,hi2]
   simp only [ltL] at h
   wp_walk using wpAny_loadPart' hl,wpAny_loadPart' hb
   rw [show false=decide (xs.size < ys.size) from (decide_eq_false (by omega)).symm] at h
   exact h
section
variable {prog:Program} {w:World} {A:Around} {E:Value→Shared→Prop} {s:Shared}
def RowAt (h:Heap) (a:Addr) (ns:List Int):Prop:=∃ vs,h.IsList a vs∧IntsAre vs.toList ns
theorem RowAt.keep {h h':Heap} {a:Addr} {ns:List Int} (x:RowAt h a ns) (k:∀ o,h.get? a=some o→h'.get? a=some o):RowAt h' a ns:=by
 obtain ⟨vs,⟨o,ho,r⟩,hi⟩:=x
 exact ⟨vs,⟨o,k o ho,r⟩,hi⟩
theorem call_lt {l b:Addr} {nx ny:List Int} {Q:Value→Shared→Prop} (hx:RowAt s.heap l nx) (hy:RowAt s.heap b ny) (h:Q (.bool (ltL nx ny)) s):wpAny (model prog w) A (call (.builtin "list.__lt__") [.ref l,.ref b]) Q E s:=by
 obtain ⟨xs,⟨⟨cx,dx,datx,slx⟩,hox,hcx,n,hdx⟩,ix⟩:=hx
 obtain ⟨ys,⟨⟨cy,dy,daty,sly⟩,hoy,hcy,n2,hdy⟩,iy⟩:=hy
 simp only at hcx hdx hcy hdy
 subst hcx hdx hcy hdy
 refine wpAny_call (codeAny_call_builtin (F.slot_list_lt).plain F.entry_list_lt ((F.slot_list_lt).check _ _ _ _ _ _ _ _ ⟨_,hox,rfl⟩ (F.args_list_lt_2 _ _) ?_))
 have f3:=AutoSeq1.sub_list_list
 obtain ⟨hp,g,d,tk,os⟩:=s
 wp_walk using AutoSeq1.wpAny_loadPart' hox,AutoSeq1.wpAny_loadPart' hoy
 exact ⟨plainId_quiet plain_eq_loop _,codeAny_builtin entry_eq_loop (by
  rw [Around.under_plainId plain_eq_loop _]
  exact lt_loopM l b xs ys n n2 dx dy slx sly nx ny ix iy _ 0 rfl (Nat.zero_le _) (Nat.zero_le _) prog w A (wants Q E) _ ⟨hox,hoy,h⟩)⟩
theorem oneLt_row {l b:Addr} {nx ny:List Int} {Q:Bool→Shared→Prop} {t:Bool} (hu:A.units < cLine) (hx:RowAt s.heap l nx) (hy:RowAt s.heap b ny) (h:Q (ltL nx ny) s):wpAny (model prog w) A (oneLt' true (.ref l) (.ref b)) Q E s:=by
 rw [oneLt'_eq]
 simp only [if_true]
 have hT:s.TypeIs (.ref l) "list":=by obtain ⟨vs,⟨o,ho,hc,_⟩,_⟩:=hx;exact ⟨o,ho,hc⟩
 refine wpAny_bind (wpAny_cRoomFor hu ?_)
 refine wpAny_bind (wpAny_callSpecialIfBound?_slot hT F.slot_list_lt (call_lt hx hy ?_))
 exact wpAny_truthy_bool h
end
end PV
set_option linter.all false
set_option Elab.async false
set_option maxRecDepth 100000
set_option maxHeartbeats 4000000
namespace PV
open PySem PySem.W PyProof.Rows
section
variable {prog:Program} {w:World} {A:Around} {E:Value→Shared→Prop} {s:Shared}
def RowsAt (h:Heap) (vs:List Value) (rs:List (List Int)):Prop:=vs.length=rs.length∧∀ i,i < vs.length→∃ b,vs.getD i .none=.ref b∧RowAt h b (rs.getD i [])
theorem RowsAt.keep {h h':Heap} {vs:List Value} {rs:List (List Int)} (x:RowsAt h vs rs) (k:∀ b r,RowAt h b r→∀ o,h.get? b=some o→h'.get? b=some o):RowsAt h' vs rs :=
 ⟨x.1,fun i hi=>let ⟨b,e,r⟩:=x.2 i hi;⟨b,e,r.keep (k b _ r)⟩⟩
theorem looks_list {M:Model} {h:Heap} {a:Addr} {ns:List Int} (x:RowAt h a ns):Looks M h (typeOf (.ref a)) (.type "list"):=by
 obtain ⟨vs,⟨o,ho,hc,_⟩,_⟩:=x
 exact fun A Q E s k q=>wpAny_typeOf (T:="list") ⟨o,k _ _ ho,hc⟩ q
theorem getD_mem' {vs:List Value} {v:Value} (h:v ∈ vs):∃ i,i < vs.length∧vs.getD i .none=v:=by
 obtain ⟨i,hi,e⟩:=List.getElem_of_mem h
 exact ⟨i,hi,by rw [List.getD_eq_getElem?_getD,List.getElem?_eq_getElem hi];exact e⟩
structure Ord (n:Nat) (key:Nat→List Int) (p:List Nat):Prop where
 pm:p.Perm (List.range n)
 up:∀ i j,i≤j→j < n→leL (key (p.getD i 0)) (key (p.getD j 0))
theorem ord_of {n:Nat} {key:Nat→List Int} {p:Array Nat} (hv:Val n p) (hu:Upp key p n):Ord n key p.toList :=
 ⟨hv.pm,fun i j hij hj=>by
  have e:∀ k,p.toList.getD k 0=p.getD k 0:=fun k=>by rw [getD_eq,List.getD_eq_getElem?_getD,Array.getElem?_toList]
  rw [e,e];exact hu i j hij hj⟩
theorem ord_small {n:Nat} {key:Nat→List Int} (h:n < 2):Ord n key (List.range n):=⟨.refl _,fun i j hij hj=>by rw [show i=j by omega];exact leL.refl _⟩
theorem sort_rows {a : Addr} {vs : List Value} {rs : List (List Int)} {n : Nat} {P : PySem.Fin → Shared → Prop} (hu : A.units < cLine) (ho : s.heap.get? a = some (seqObj "list" vs.toArray n)) (hr : RowsAt s.heap vs rs) (hne : ∀ v ∈ vs, v ≠ .ref a) (h64 : vs.length < 64)
    (h : ∀ p h' c, Ord vs.length (fun i => rs.getD i []) p → h'.get? a = some (seqObj "list" (p.map fun i => vs.getD i .none).toArray c) → (∀ b o, b ≠ a → s.heap.get? b = some o → h'.get? b = some o) → P (.done (.ret .none)) { s with heap := h' }) :
    wpAny (model prog w) A (Builtin.«list.sort» ⟨[.ref a], []⟩) P E s := by
  have hsl := sizeLine_eq
  rw [list_sort_plain]
  refine wpAny_bind (listItems_at ho rfl ?_)
  refine wpAny_bind (listUpdate_at ho rfl ?_ (by rw [List.size_toArray]; omega) (Nat.zero_le _))
  obtain ⟨e1, ho1⟩ : ∃ e1, (s.heap.update a (Obj.mapSeq fun _ => (#[] : Array Value))).get? a = some (seqObj "list" #[] e1) := ⟨_, get?_update_seq ho fun _ => #[]⟩
  refine wpAny_bind (seqEpoch_at ho1 rfl (wpAny_bind (wpAny_newTuple ?_ (by show vs.length ≤ _; omega))))
  refine wpAny_bind (wpAny_newList (wpAny_holding ?_) (Nat.zero_le _))
  obtain ⟨h3, e3⟩ : ∃ h3, h3 = ((s.heap.update a (Obj.mapSeq fun _ => (#[] : Array Value))).push (seqObj "tuple" vs.toArray 0)).push (seqObj "list" #[] 0) := ⟨_, rfl⟩
  have ho3 : h3.get? a = some (seqObj "list" #[] e1) := by rw [e3]; exact Heap.get?_push_of_some _ (Heap.get?_push_of_some _ ho1)
  have oth : ∀ b o, b ≠ a → s.heap.get? b = some o → h3.get? b = some o := fun b o hb e => by
    rw [e3]
    refine Heap.get?_push_of_some _ (Heap.get?_push_of_some _ ?_)
    rw [Heap.get?_update_other _ _ (Ne.symm hb)]; exact e
  show wpAny _ _ _ _ _ { s with heap := ((s.heap.update a (Obj.mapSeq fun _ => (#[] : Array Value))).push (seqObj "tuple" vs.toArray 0)).push (seqObj "list" #[] 0) }
  rw [← e3]
  have hr3 : RowsAt h3 vs rs := ⟨hr.1, fun i hi => by
    obtain ⟨b, e, r⟩ := hr.2 i hi
    refine ⟨b, e, r.keep fun o q => oth b o (fun hb => ?_) q⟩
    subst hb
    refine hne (.ref b) ?_ rfl
    rw [← e, List.getD_eq_getElem?_getD, List.getElem?_eq_getElem hi]; exact List.getElem_mem hi⟩
  have fin : ∀ (st : SortSt) (p : List Nat), (arrOf st).map (·.2) = (p.map fun i => vs.getD i .none).toArray → failedOf st = none → Ord vs.length (fun i => rs.getD i []) p → wpAny (model prog w) A (do
      let touched := (← seqEpoch a) != e1
      Builtin.List.listUpdate (.ref a) fun _ => (arrOf st).map (·.2)
      if let some e := failedOf st then rule "list.sort.comparison-raised"; throw e
      if touched then rule "list.sort.modified"; raiseError "ValueError" "list modified during sort"
      ret .none) P E { s with heap := h3 } := by
    intro st p hout hf hord
    have hlen : p.length = vs.length := by rw [hord.pm.length_eq]; simp
    refine wpAny_bind (seqEpoch_at ho3 rfl ?_)
    rw [hout]
    refine wpAny_bind (listUpdate_at ho3 rfl ?_ (Nat.zero_le _) (by rw [List.size_toArray, List.length_map]; omega))
    rw [hf]
    simp only [bne_self_eq_false, Bool.false_eq_true, if_false]
    refine wpAny_pure (h p _ _ hord (get?_update_seq ho3 (fun _ => (p.map fun i => vs.getD i .none).toArray)) fun b o hb e => ?_)
    rw [Heap.get?_update_other _ _ (Ne.symm hb)]; exact oth b o hb e
  by_cases h2 : vs.toArray.size < 2
  · rw [if_pos h2, if_pos h2]
    refine wpAny_bind (wpAny_pure ?_)
    dsimp only
    rw [StateT.run_pure]
    refine wpAny_bind (wpAny_pure ?_)
    have hz : vs.length < 2 := by simpa using h2
    refine fin (SortSt.mk' general' (vs.toArray.zip vs.toArray) #[] 7 none) (List.range vs.length) ?_ rfl (ord_small hz)
    show (vs.toArray.zip vs.toArray).map (·.2) = _
    match vs, hz with
    | [], _ => simp
    | [v], _ => simp
  · rw [if_neg h2, if_neg h2]
    have hz : 2 ≤ vs.length := by simp at h2; exact h2
    refine wpAny_bind (kas_kind (T := .type "list") hz (fun v hv => ?_) (by decide) (by decide) ?_)
    · obtain ⟨i, hi, rfl⟩ := getD_mem' hv
      obtain ⟨b, e, r⟩ := hr3.2 i hi
      rw [e]; exact looks_list r
    have est : SortSt.mk' oneType' (vs.toArray.zip vs.toArray) #[] 7 none = kas_st oneType' (pairsOf vs) (List.toArray (List.range vs.length)) := by
      have e := kas_range (pairsOf vs)
      rw [pairsOf_size] at e
      show SortSt.mk' oneType' (pairsOf vs) #[] 7 none = SortSt.mk' oneType' ((List.toArray (List.range vs.length)).map (kas_item (pairsOf vs))) #[] 7 none
      rw [e]
    have run := kas_runs (prog := prog) (w := w) (A := A) (E := E) (κ := oneType') (it := pairsOf vs) (s := { s with heap := h3 }) (Q := fun _ st' s' => s' = { s with heap := h3 } ∧ ∃ p : List Nat, (arrOf st').map (·.2) = (p.map fun i => vs.getD i .none).toArray ∧ failedOf st' = none ∧ Ord vs.length (fun i => rs.getD i []) p)
      (G := fun p s' => s' = { s with heap := h3 } ∧ Ord vs.length (fun i => rs.getD i []) p.toList) hz h64 (fun p' st' s' a1 a2 a3 a4 => ⟨a4.1, p'.toList, ?_, a3, a4.2⟩)
      (sort_w (P := fun s' => s' = { s with heap := h3 }) (key := fun i => rs.getD i []) (fun i j hi hj C s' hs' hC => ?_) hz rfl fun p' s' hv hu hs' => ⟨hs', ord_of hv hu⟩)
    · rw [← est] at run
      refine wpAny_bind (wpAny_mono run ?_ fun _ _ e => e)
      rintro ⟨⟨⟩, st'⟩ s' ⟨rfl, p, hp, hf, hord⟩
      exact fin st' p hp hf hord
    · apply Array.toList_inj.mp
      rw [a2, Array.map_map, Array.toList_map]
      exact List.map_congr_left fun i _ => by show (kas_item (pairsOf vs) i).2 = _; rw [kas_item_eq]
    · subst hs'
      obtain ⟨b1, q1, r1⟩ := hr3.2 i hi
      obtain ⟨b2, q2, r2⟩ := hr3.2 j hj
      show wpAny (model prog w) A (keyLt' oneType' (kas_item (pairsOf vs) i).1 (kas_item (pairsOf vs) j).1) C (fun _ _ => False) _
      rw [kas_item_eq, kas_item_eq, keyLt'_oneType]
      show wpAny (model prog w) A (oneLt' true (vs.getD i .none) (vs.getD j .none)) C (fun _ _ => False) _
      rw [q1, q2]
      exact oneLt_row (t := true) hu r1 r2 (hC _ rfl)
theorem sorted_rows {l:Addr} {vs:List Value} {rs:List (List Int)} {Q:Value→Shared→Prop} (hu:A.units + 4 < cLine) (hl:s.heap.IsList l vs.toArray) (hr:RowsAt s.heap vs rs) (h64:vs.length < 64)
  (h:∀ p h' c D,Ord vs.length (fun i=>rs.getD i []) p→s.heap.objs.size≤D→h'.get? D=some (seqObj "list" (p.map fun i=>vs.getD i .none).toArray c)→(∀ b o,s.heap.get? b=some o→h'.get? b=some o)→Q (.ref D) { s with heap:=h' }) :
  wpAny (model prog w) A (call (.builtin "sorted") [.ref l]) Q E s:=by
 have hsl:=sizeLine_eq
 refine Calls.call_function_entry kind_sorted plain_sorted entry_sorted (args_sorted1 _) ?_
 unfold Builtin.«sorted»
 refine wpAny_bind (m:=checkCount "sorted" 1 1 _) (wpAny_pure (wpAny_bind (collect_list hl ?_ (by omega))))
 refine wpAny_bind (wpAny_newList ?_ (by omega))
 obtain ⟨h2,e2⟩:∃ h2,h2=(s.heap.push (seqObj "list" #[] 0)).update s.heap.objs.size (Obj.mapSeq (·++vs.toArray)):=⟨_,rfl⟩
 have sz2:h2.objs.size=s.heap.objs.size + 1:=by rw [e2,Heap.size_update,size_push']
 have up2:∀ b o,s.heap.get? b=some o→h2.get? b=some o:=fun b o e=>by
  rw [e2,Heap.get?_update_other _ _ (Nat.ne_of_gt (Heap.lt_size e))]
  exact Heap.get?_push_of_some _ e
 show wpAny _ _ _ _ _ { s with heap:=((s.heap.push (seqObj "list" #[] 0)).update s.heap.objs.size (Obj.mapSeq (·++vs.toArray))).push (seqObj "list" vs.toArray 0) }
 rw [← e2]
 have g3:(h2.push (seqObj "list" vs.toArray 0)).get? h2.objs.size=some (seqObj "list" vs.toArray 0):=Heap.get?_push_size _ rfl
 have up3:∀ b o,s.heap.get? b=some o→(h2.push (seqObj "list" vs.toArray 0)).get? b=some o:=fun b o e=>Heap.get?_push_of_some _ (up2 b o e)
 refine wpAny_bind (wpAny_holding (wpAny_call_entry slot_list_sort ⟨_,g3,rfl⟩ entry_list_sort ?_ (args_list_sort _)))
 have hu2:A.in1.in1.units < cLine:=by
  have:A.in1.in1.units≤A.units + 4:=by simp [Around.in1]
  omega
 refine sort_rows (s:={ s with heap:=h2.push (seqObj "list" vs.toArray 0) }) hu2 g3 (hr.keep fun b r _ o e=>up3 b o e) (fun v hv e=>?_) h64 fun p h' c hp hg hk=>⟨_,rfl,wpAny_pure ⟨_,rfl,h p h' c _ hp (by show s.heap.objs.size≤h2.objs.size;omega) hg fun b o e=>hk b o ?_ (up3 b o e)⟩⟩
 ·obtain ⟨i,hi,q⟩:=getD_mem' hv
  obtain ⟨b,e',vs',⟨o,ho,_⟩,_⟩:=hr.2 i hi
  rw [q,e] at e'
  injection e' with e'
  have h9:b < s.heap.objs.size:=Heap.lt_size ho
  rw [← e'] at h9
  exact Nat.lt_irrefl _ (Nat.lt_of_lt_of_le h9 (by show s.heap.objs.size≤h2.objs.size;omega))
 ·have:=Heap.lt_size e
  exact Nat.ne_of_lt (by rw [sz2];exact Nat.lt_succ_of_lt this)
end
end PV
set_option linter.all false
set_option Elab.async false
set_option maxRecDepth 100000
set_option maxHeartbeats 4000000
namespace PV
open PySem PySem.Spec PyProof.Rows
open L2 (V Hp HO Vals SqL SqT Same upd Cx PE PT PW PA PS PSs TE TT TA TS Inv RelV upd_same upd_ne ne_of_none Un)
def tNL (K:PySem.W.Frag) (f:Ex):TE:=fun σ H Q=>∃ BF BH F env L ds,SOk K BF BH F H σ env L∧f env=some (.lst ds) ∧
 ∀ a vs F' H',Ext F H F' H'→H a=none→H' a=some (.lst vs)→F' a=none→RepsN (cut F' BH) ds vs→Q (.ref a) H'
structure PDl (X:Cx) (e:Expr) (f:Ex):Prop where
 h:PE X e (tNL X.K f)
theorem eFl_inv {f:Ex} {env:Env} {d:D} (h:eFl f env=some d):∃ ds,f env=some (.lst ds)∧d=.lst ds∧ds.all scalD=true:=by
 unfold eFl at h
 split at h
 ·rename_i ds e
  split at h
  ·rename_i hs;cases h;exact ⟨ds,e,rfl,hs⟩
  ·cases h
 ·cases h
section
variable {X:Cx} {m m1 m2:Md} {r:RetP} {a b e:Expr} {es:List Expr} {f g:Ex} {fs:List Ex} {t:Tx} {pos pos' p p2:Pos}
theorem PDo.fl (h:PDo X m e f):PDw X e (eFl f):=⟨PE.of h fun σ H Q ⟨BF,BH,F,env,L,d,S,e,q⟩=>by
 obtain ⟨ds,e1,rfl,hs⟩:=eFl_inv e
 refine ⟨BF,BH,F,env,L,ds,S,e1,fun a vs F' H' z h0 h1 h2 r=>?_⟩
 have y:Ext F H (upd F' a (.lst vs)) H':=z.frz h0 h1 h2
 refine q _ _ H' y ?_
 simp only [RepN]
 exact ⟨a,vs,rfl,by rw [cut_get h0];exact upd_same,scals_N hs r⟩⟩
theorem pl_nil:PDl X (.List [] pos) (eLst []):=⟨PE.of (po_lst (m:=.k) (pos:=pos) (X:=X) pa_no) fun σ H Q ⟨BF,BH,F,env,L,ds,S,e,q⟩=>by
 refine ⟨BF,BH,F,env,L,ds,S,e,fun a vs F' H' z h0 h1 h2 r=>q a vs F' H' z h0 h1 h2 ?_⟩
 cases e
 simp only [Reps,RepsN] at r ⊢
 exact r⟩
theorem pl_one (ha:PDn X e f) (hs:nst e=true:=by rfl):PDl X (.List [e] pos) (eLst [f]):=⟨PE.of (L2.pe_lst (L2.pa_cons ha.h L2.pa_nil (star_one hs))) fun σ H Q ⟨BF,BH,F,env,L,ds,S,e,q⟩=>by
 unfold eLst evs evs at e
 cases h1:f env with
 | none=>rw [h1] at e;cases e
 | some d =>
  rw [h1] at e
  cases e
  refine ⟨BF,BH,F,env,L,d,S,h1,fun v F' H' z r=>⟨by rw [sizeLine_eq];simp,fun p hp=>?_⟩⟩
  have y:=z.trans (Ext.own (o:=HO.lst [v]) z.fh hp)
  refine q p [v] F' _ y (z.hh.free hp) upd_same (z.fh.free hp) ?_
  simp only [RepsN]
  exact ⟨v,[],rfl,r,rfl⟩⟩
theorem PDl.n (h:PDl X e f) (hf:∀ env d,f env=some d→∃ ds,d=.lst ds):PDn X e f:=⟨PE.of h.h fun σ H Q ⟨BF,BH,F,env,L,d,S,e,q⟩=>by
 obtain ⟨ds,rfl⟩:=hf env d e
 refine ⟨BF,BH,F,env,L,ds,S,e,fun a vs F' H' z h0 h1 h2 r=>?_⟩
 have y:Ext F H (upd F' a (.lst vs)) H':=z.frz h0 h1 h2
 refine q _ _ H' y ?_
 simp only [RepN]
 refine ⟨a,vs,rfl,by rw [cut_get (S.s0.free h0)];exact upd_same,RepsN.mono (cut_mono fun b o hb=>?_) _ _ r⟩
 have hne:b≠a:=fun e=>by rw [e,h2] at hb;cases hb
 rw [upd_ne hne];exact hb⟩
theorem nw_set {K:PySem.W.Frag} {BF BH F F' H H':Hp} {σ:L2.St} {env:Env} {L:Nat→List Addr} (S:SOk K BF BH F H σ env L) (z:Ext F H F' H') (i:Nat) {p:Addr} {vs:List V} {ds:List D} (h0:H p=none) (h1:H' p=some (.lst vs)) (h2:F' p=none) (r:RepsN (cut F' BH) ds vs) :
  SOk K BF BH F' H' (σ.set i (some (.ref p))) (env.set i (.nw ds)) (putL L i [p]) :=
 (S.ext z).set i ⟨p,vs,rfl,rfl,h1,r⟩ (fun a h=>by
  rw [List.mem_singleton] at h;subst h
  exact ⟨h2,S.s0.free h0,by rw [h1];simp⟩) (fun a h j hj hm=>by
  rw [List.mem_singleton] at h;subst h
  exact (S.ow j a hm).2.2 h0)
theorem ps_new (nd:X.N.Nodup) (i:Nat) {x:Str} (ha:PDl X e f) (hi:X.N[i]?=some x:=by kernel_rfl) (hx:locB X.env.scope x=true:=by kernel_rfl) (hs:swapsWith e (some (.Name x pos')) pos.line X.env=pure false:=by rfl)
  (hf:fnB X x=true:=by kernel_rfl):PS1 X r (.Assign [.Name x pos'] e pos) (sNew i f) :=
 PS1.mk <| PS.of (L2.ps_set nd hi (locB_ok hx) ha.h hs (fnB_ok hf)) fun D0 σ H ⟨BF,BH,F,env,L,o,env',S,e,k⟩=>by
  unfold sNew at e
  split at e
  ·rename_i ds h1
   cases e
   exact ⟨BF,BH,F,env,L,ds,S,h1,fun p vs F' H' z h0 h2 h3 r=>k F' H' _ _ (nw_set S z i h0 h2 h3 r) z.ff⟩
  ·cases e
theorem sl_nw {K:PySem.W.Frag} {BF BH F H:Hp} {σ:L2.St} {env:Env} {L:Nat→List Addr} (S:SOk K BF BH F H σ env L) {i:Nat} {ds:List D} (h:env[i]?=some (.nw ds)):∃ p vs,σ[i]?=some (some (.ref p))∧L i=[p]∧H p=some (.lst vs)∧RepsN (cut F BH) ds vs:=by
 obtain ⟨ov,h1,h2⟩:=S.sl i _ h
 obtain ⟨p,vs,rfl,h3,h4,h5⟩:=h2
 exact ⟨p,vs,h1,h3,h4,h5⟩
theorem repsN_app {H:Hp}:∀ {ds es:List D} {vs ws:List V},RepsN H ds vs→RepsN H es ws→RepsN H (ds++es) (vs++ws)
 | [],es,vs,ws,h,k=>by simp only [RepsN] at h;subst h;exact k
 | d::ds,es,vs,ws,h,k=>by
  simp only [RepsN] at h
  obtain ⟨v,r,rfl,h2,h3⟩:=h
  show RepsN H (d::(ds++es)) (v::(r++ws))
  simp only [RepsN]
  exact ⟨v,_,rfl,h2,repsN_app h3 k⟩
theorem RepsN.len {H:Hp}:∀ {ds:List D} {vs:List V},RepsN H ds vs→ds.length=vs.length
 | [],vs,h=>by simp only [RepsN] at h;subst h;rfl
 | d::ds,vs,h=>by
  simp only [RepsN] at h
  obtain ⟨v,r,rfl,h2,h3⟩:=h
  simp [h3.len]
theorem ps_appN (i:Nat) {x:Str} {p1 p2 p3 p4:Pos} (ha:PDn X e f) (hN:X.N[i]?=some x:=by kernel_rfl) (hv:visB X.env.scope x=true:=by kernel_rfl) (hd:(x == ("__debug__":Str))=false:=by kernel_rfl)
  (hcd:(x == ("__classdict__":Str))=false:=by kernel_rfl) (hst:nst e=true:=by rfl)
  (hbase:attributeBase (.Name x p1) "append" X.env (eval (.Name x p1) X.env)=eval (.Name x p1) X.env:=by rfl)
  (hline:(p2.endLine == p3.line)=true:=by rfl)
  (hsw:swapsWith (.Call (.Attribute (.Name x p1) "append" p2) [e] [] p3) none p4.line X.env=pure false:=by rfl) :
  PS1 X r (.Expr (.Call (.Attribute (.Name x p1) "append" p2) [e] [] p3) p4) (sAppN i f) :=
 PS1.mk <| PS.of (L2.ps_expr (L2.pe_bm PySem.F.plainAttrs_list PySem.F.slot_list_append PySem.F.type_list_append L2.mt_append (L2.pe_var hN (visB_ok hv) hd hcd) (L2.pa_cons ha.h L2.pa_nil (star_one hst)) hbase (by rw [star_few (nsts_one hst)];rfl) hline (star_cons hst) rfl) hsw) fun D0 σ H ⟨BF,BH,F,env,L,o,env',S,e,k⟩=>by
  unfold sAppN at e
  split at e
  ·rename_i ds d he h1
   split at e
   ·rename_i hlen
    cases e
    obtain ⟨p,vs,hσ,hl,hp,rr⟩:=sl_nw S he
    refine ⟨_,hσ,tyV_ow hp,BF,BH,F,env,L,d,S,h1,fun v F' H' z rv=>?_⟩
    have S':=S.ext z
    have r':RepsN (cut F' BH) (ds++[d]) (vs++[v]):=repsN_app (RepsN.mono (cut_mono z.ff) _ _ rr) (by simp only [RepsN];exact ⟨v,[],rfl,rv,rfl⟩)
    refine ⟨p,vs,v,rfl,rfl,z.hh _ _ hp,by rw [← rr.len];exact Nat.lt_of_lt_of_le hlen lim_le,?_⟩
    refine k F' _ σ L (S'.own (i:=i) (a:=p) (by rw [hl];simp) _ fun s ov h1 h2 h3=>?_) z.ff
    rw [hσ] at h2;cases h2
    exact ⟨p,_,rfl,hl,upd_same,r'⟩
   ·cases e
  ·cases e
end
end PV
set_option linter.all false
set_option Elab.async false
set_option maxRecDepth 100000
set_option maxHeartbeats 4000000
namespace PV
open PySem PySem.Spec PyProof.Rows
open L2 (V Hp HO Vals SqL SqT Same upd Cx PE PT PW PA PS PSs TE TT TA TS Inv RelV upd_same upd_ne ne_of_none Un)
section
variable {X:Cx} {m m1 m2:Md} {r:RetP} {a b e:Expr} {es:List Expr} {f g:Ex} {fs:List Ex} {t:Tx} {pos pos' p p2:Pos}
theorem rows_at {pins:List (Addr × Obj)} {σ:L2.St} {H:Hp} {s:Shared} (I:Inv X pins σ H s):∀ {vs:List V} {us:List Value} {rs:List (List Int)},Vals vs us→(vs.length=rs.length∧∀ i,i < vs.length→∃ b,vs[i]?=some (.ref b)∧SqL X.K H b ((rs.getD i []).map V.int))→RowsAt s.heap us rs:=by
 intro vs us rs hv ⟨h1,h2⟩
 have hl:=hv.length
 refine ⟨by rw [← hl];exact h1,fun i hi=>?_⟩
 obtain ⟨b,e,hS⟩:=h2 i (by omega)
 obtain ⟨u,hu,ru⟩:=hv.get e
 cases ru
 refine ⟨b,by rw [List.getD_eq_getElem?_getD,hu];rfl,?_⟩
 obtain ⟨its,r,p,z⟩:=I.list hS
 exact ⟨_,p.isList,by simpa using vals_ints r⟩
def rSort (K:PySem.W.Frag):List V→Hp→L2.VK→Prop:=fun xs H Q =>
 (∃ (l:Addr) (ns:List Int),xs=[.ref l]∧SqL K H l (ns.map V.int)∧ns.length < 64∧∀ q,H q=none→Q (.ref q) (upd H q (.lst ((srt ns).map V.int)))) ∨
 (∃ (l:Addr) (vs:List V) (rs:List (List Int)),xs=[.ref l]∧SqL K H l vs∧(vs.length=rs.length∧∀ i,i < vs.length→∃ b,vs[i]?=some (.ref b)∧SqL K H b ((rs.getD i []).map V.int))∧vs.length < 64 ∧
  ∀ q p,H q=none→Ord vs.length (fun i=>rs.getD i []) p→Q (.ref q) (upd H q (.lst (p.map fun i=>vs.getD i .non))))
theorem vals_perm {vs:List V} {us:List Value} (h:Vals vs us):∀ (p:List Nat),(∀ i ∈ p,i < vs.length)→Vals (p.map fun i=>vs.getD i .non) (p.map fun i=>us.getD i .none)
 | [],_=>.nil
 | i::p,hp=>by
  have hi:=hp i List.mem_cons_self
  obtain ⟨u,hu,ru⟩:=h.get (i:=i) (x:=vs.getD i .non) (by simp [List.getD,hi])
  refine .cons ?_ (vals_perm h p fun j hj=>hp j (List.mem_cons_of_mem _ hj))
  show L2.RelV (vs.getD i .non) (us.getD i .none)
  rw [List.getD_eq_getElem?_getD (l:=us),hu];exact ru
theorem call_sort (hu:X.A.units + 64 < cLine):L2.CallR X (.builtin "sorted") (rSort X.K):=by
 intro pins s σ H xs us Q I r h
 rcases h with ⟨l,ns,rfl,hS,h64,k⟩ | ⟨l,vs,rs,rfl,hS,hR,h64,k⟩
 ·obtain ⟨u,rfl,ru⟩:=r.one
  cases ru
  obtain ⟨its,rv,pl,z⟩:=I.list hS
  have hi:=vals_ints rv
  have hl:=ints_len hi
  refine sorted_ints pl.isList hi (by omega) fun out ns' a1 a2 a3=>?_
  have ej:ns'=srt ns:=srt_uniq a2 a3
  obtain ⟨c,hc⟩:=sortedAll_at s.heap its out
  have I2:=I.laid (a:=s.heap.objs.size + 1) (o:=.lst ((srt ns).map V.int)) (h':=sortedAll s.heap its out) (t':=s.toks) (fun b u e=>sortedAll_old e) (Nat.le_succ _) ⟨by rw [List.length_map,(srt_perm _).length_eq,sizeLine_eq];omega,out.toList,c,ej ▸ ints_vals a1,by simpa using hc⟩
  exact ⟨.ref _,_,I2,rfl,k _ (I.hok.fresh (Nat.le_succ _))⟩
 ·obtain ⟨u,rfl,ru⟩:=r.one
  cases ru
  obtain ⟨its,rv,pl,z⟩:=I.list hS
  have hl:=rv.length
  refine sorted_rows (by omega) pl.isList (rows_at I rv hR) (by omega) fun p h' c D hp hD hg hk=>?_
  rw [← hl] at hp
  have hlt:∀ i ∈ p,i < vs.length:=fun i hi=>by simpa using hp.pm.mem_iff.mp hi
  have I2:=I.laid (a:=D) (o:=.lst (p.map fun i=>vs.getD i .non)) (h':=h') (t':=s.toks) hk hD ⟨by rw [List.length_map,hp.pm.length_eq,List.length_range,sizeLine_eq];omega,_,c,vals_perm rv p hlt,hg⟩
  exact ⟨.ref D,_,I2,rfl,k D p (I.hok.fresh hD) hp⟩
theorem range_map {α:Type} (l:List α) (d:α):(List.range l.length).map (fun i=>l.getD i d)=l:=by
 apply List.ext_getElem
 ·simp
 ·intro i h1 h2
  simp at h1
  simp [List.getD,h1]
theorem ord_srt {rs:List (List Int)} {p:List Nat} (h:Ord rs.length (fun i=>rs.getD i []) p):p.map (fun i=>rs.getD i [])=srtB (fun r=>r) rs:=by
 have hlen:p.length=rs.length:=by rw [h.pm.length_eq];simp
 have p1:(p.map fun i=>rs.getD i []).Perm rs:=by
  have:=h.pm.map fun i=>rs.getD i []
  rwa [range_map] at this
 refine (p1.trans (srtB_perm _ rs).symm).eq_of_pairwise (fun x y _ _ h1 h2=>leL.anti h1 h2) ?_ (srtB_up (fun r=>r) rs)
 rw [List.pairwise_iff_getElem]
 intro i j hi hj hij
 simp only [List.length_map] at hi hj
 have:=h.up i j (Nat.le_of_lt hij) (by omega)
 simpa [List.getD,hi,hj] using this
theorem rowI_inv {d:D} {r:List Int} (h:rowI? d=some r):d=rowD r:=by
 cases d with
 | lst xs=>simp only [rowI?] at h;rw [ints_of h];rfl
 | _=>simp [rowI?] at h
theorem rowsI_inv:∀ {xs:List D} {rs:List (List Int)},rowsI? xs=some rs→xs=rs.map rowD
 | [],rs,h=>by simp only [rowsI?] at h;cases h;rfl
 | x::xs,rs,h=>by
  simp only [rowsI?] at h
  split at h
  ·rename_i r q h1 h2;cases h;rw [rowI_inv h1,rowsI_inv h2];rfl
  ·cases h
theorem reps_perm {K:PySem.W.Frag} {H:Hp} {ds:List D} {vs:List V} (h:Reps K H ds vs):∀ (p:List Nat),(∀ i ∈ p,i < vs.length)→Reps K H (p.map fun i=>ds.getD i .non) (p.map fun i=>vs.getD i .non)
 | [],_=>Reps.nil
 | i::p,hp=>by
  have hi:=hp i List.mem_cons_self
  obtain ⟨d,hd,rd⟩:=h.getV (i:=i) (v:=vs.getD i .non) (by simp [List.getD,hi])
  refine Reps.cons ?_ (reps_perm h p fun j hj=>hp j (List.mem_cons_of_mem _ hj))
  show Rep K H (ds.getD i .non) (vs.getD i .non)
  rw [List.getD_eq_getElem?_getD (l:=ds),hd];exact rd
theorem po_sort {p:Pos} (T:Bt X.mg) (hu:X.A.units + 64 < cLine) (ha:PD X m a f) (hg:X.env.kindOf "sorted"=some .globalImplicit:=by kernel_rfl) (hs:nst a=true:=by rfl):PDo X m (.Call (.Name "sorted" p) [a] [] pos) (eF1 fSort f) :=
 PE.of (L2.pe_callB (call_sort hu) hg T.sorted boot_sorted (L2.pa_cons ha.h L2.pa_nil (star_one hs)) (by decide) (by decide) (star_cons hs) rfl) fun σ H Q ⟨BF,BH,F,env,L,ds,S,e,q⟩=>by
  unfold eF1 at e
  split at e
  ·rename_i x hx
   refine ⟨BF,BH,F,env,L,x,S,hx,fun v F' H' z rx=>?_⟩
   have hm:=hpM_r (BH:=BH) z.fh m
   unfold fSort at e
   split at e
   ·rename_i xs
    simp only [Rep] at rx
    obtain ⟨l,vs,rfl,hS,hr⟩:=rx
    split at e
    ·rename_i ns hn
     split at e
     ·rename_i h64
      cases e
      have ex:=ints_of hn
      subst ex
      have ev:=reps_intsV hr
      subst ev
      refine .inl ⟨l,ns,rfl,hm.seq hS,h64,fun p hp=>?_⟩
      obtain ⟨y2,h0,h2,s⟩:=own_new (m:=m) S z hp (HO.lst ((srt ns).map V.int))
      exact q p _ F' _ y2 h0 upd_same h2 (Reps.ints _)
     ·cases e
    ·split at e
     ·rename_i rs hrs
      split at e
      ·rename_i h64
       cases e
       have ex:=rowsI_inv hrs
       subst ex
       have hl:vs.length=rs.length:=by rw [← hr.length];simp
       refine .inr ⟨l,vs,rs,rfl,hm.seq hS,⟨hl,fun i hi=>?_⟩,by omega,fun p ps hp hord=>?_⟩
       ·obtain ⟨v,hv,rv⟩:=hr.get (i:=i) (d:=rowD (rs.getD i [])) (by simp [List.getD,show i < rs.length by omega])
        simp only [rowD,Rep] at rv
        obtain ⟨b,ws,rfl,hS2,hr2⟩:=rv
        have ew:=reps_intsV hr2
        subst ew
        exact ⟨b,hv,hm.seq hS2⟩
       ·have hlt:∀ i ∈ ps,i < vs.length:=fun i hi=>by simpa using hord.pm.mem_iff.mp hi
        obtain ⟨y2,h0,h2,s⟩:=own_new (m:=m) S z hp (HO.lst (ps.map fun i=>vs.getD i .non))
        refine q p _ F' _ y2 h0 upd_same h2 ?_
        have e3:(srtB (fun r=>r) rs).map (fun r=>D.lst (r.map .int))=ps.map fun i=>(rs.map rowD).getD i .non:=by
         rw [← ord_srt (by rw [← hl];exact hord),List.map_map]
         refine List.map_congr_left fun i hi=>?_
         have hi':i < rs.length:=by rw [← hl];exact hlt i hi
         simp [List.getD,hi',rowD]
        rw [e3]
        exact Reps.mono s _ _ (reps_perm hr ps hlt)
      ·cases e
     ·cases e
   ·cases e
  ·cases e
end
end PV
set_option linter.all false
set_option Elab.async false
namespace PV
def fSortK (φ:List D→Option D):D→Option D
 | .lst xs=>match keysD φ xs with
  | some ks=>if ks.length < 64∧(ks.map (·.1)).Nodup then some (.lst ((srtB (fun p:List Int × D=>p.1) ks).map fun p=>p.2)) else none
  | none=>none
 | _=>none
def eVarW (i:Nat):Ex:=fun env=>match env[i]? with
 | some (.nw ds)=>some (.lst ds)
 | _=>none
end PV
set_option linter.all false
set_option Elab.async false
set_option maxRecDepth 100000
set_option maxHeartbeats 4000000
namespace PV
open PySem PySem.W PySem.Spec PyProof.Rows
open L2 (V Hp HO Vals SqL SqT Same upd Cx PE PT PW PA PS PSs TE TT TA TS Inv RelV upd_same upd_ne ne_of_none Un)
section
variable {prog:Program} {w:World} {A:Around} {E:Value→Shared→Prop} {s:Shared}
def KeyAt (h:Heap) (v:Value) (n:Int) (r:List Int):Prop:=∃ a o c b tk,v=.ref a∧h.get? a=some o∧o.cls=.type "tuple"∧o.data=.seq #[.int n tk,.ref b] c∧RowAt h b r
theorem hrs_ints {s:Shared}:∀ {its:List Value} {ns:List Int},IntsAre its ns→Hrs s (ns.map D.int) its
 | _,_,.nil=>by simp [Hrs]
 | _,_,.cons n t h=>by simp only [List.map_cons,Hrs,Hr];exact ⟨_,_,rfl,⟨t,rfl⟩,hrs_ints h⟩
theorem hr_row {b:Addr} {r:List Int} (h:RowAt s.heap b r):Hr s (rowD r) (.ref b):=by
 obtain ⟨x,l,i⟩:=h
 simp only [rowD,Hr]
 exact ⟨b,x.toList,rfl,by simpa using l,hrs_ints i⟩
theorem lt_rows {b1 b2:Addr} {r1 r2:List Int} {Q:Bool→Shared→Prop} (hu:A.units < cLine) (h1:RowAt s.heap b1 r1) (h2:RowAt s.heap b2 r2) (h:Q (ltL r1 r2) s):wpAny (model prog w) A (oneLt' false (.ref b1) (.ref b2)) Q E s:=by
 have ty:∀ {b:Addr} {r:List Int},RowAt s.heap b r→s.TypeIs (.ref b) "list":=fun h=>by obtain ⟨vs,⟨o,ho,hc,_⟩,_⟩:=h;exact ⟨o,ho,hc⟩
 refine kat_one _ _ (show wpAny (model prog w) A (richCompare .Lt (.ref b1) (.ref b2)) (PySem.W.BoolBack Q) E s from ?_)
 exact wpAny_richCompare_same_or (op:=.Lt) (ty h1) (ty h2) F.slot_list_lt (call_lt h1 h2 ⟨by simp,h⟩) (.inr hu)
theorem key_lt {v1 v2:Value} {n1 n2:Int} {r1 r2:List Int} {Q:Bool→Shared→Prop} (hu:A.units + 8 < cLine) (h1:KeyAt s.heap v1 n1 r1) (h2:KeyAt s.heap v2 n2 r2) (h:Q (ltL (n1::r1) (n2::r2)) s):wpAny (model prog w) A (keyLt' (tuples' true) v1 v2) Q E s:=by
 obtain ⟨a1,o1,c1,b1,t1,rfl,g1,_,d1,q1⟩:=h1
 obtain ⟨a2,o2,c2,b2,t2,rfl,g2,_,d2,q2⟩:=h2
 refine kat_lt g1 d1 g2 d2 ?_
 show KatLex prog w A true _ Q [(.int n1 t1,.int n2 t2),(.ref b1,.ref b2)] 0 s
 refine kat_cons (wpAny_eqBool_int ?_)
 by_cases e:n1=n2
 ·rw [show (n1 == n2)=true from by simpa using e]
  simp only [ltL,if_pos e] at h
  refine kat_yes (kat_cons (eqAt_D (rowD r1) (rowD r2) _ _ (by rw [dep_row];omega) (hr_row q1) (hr_row q2) prog w _ _ ?_))
  rw [eqD_row]
  by_cases er:r1=r2
  ·rw [decide_eq_true er]
   subst er
   rw [ltL_irr] at h
   exact kat_yes (kat_nil h)
  ·rw [decide_eq_false er]
   exact kat_no (lt_rows (by omega) q1 q2 h)
 ·rw [show (n1 == n2)=false from by simpa using e]
  simp only [ltL,if_neg e] at h
  exact kat_no (oneLt_int h)
end
section
variable {X:Cx} {m m1 m2:Md} {r:RetP} {a b e:Expr} {f g:Ex} {pos p p2:Pos}
theorem run_key {pins:List (Addr × Obj)} {σ:L2.St} {H:Hp} {s:Shared} {Q:L2.VK} {k:Nat} {fa:Addr} {fd:FuncData} {ps:List Str} {φ:List D→Option D} {v:V} {u:Value} (F:L2.FnOk X.prog X.w X.K X.mg X.base L2.CX0 k fa fd ps (spR X.K (rk X.K .k) φ)) (hr:L2.Room (k + 2) X.A) (hb:L2.Binds X.K fd ps [])
  (I:Inv X pins σ H s) (r:RelV v u) (h:spR X.K (rk X.K .k) φ [v] H Q L2.E0):wpAny (model X.prog X.w) X.A.in1.in1 (call (.ref fa) [u]) (L2.EP X pins σ Q) (fun _ _=>False) s:=by
 have r2:Vals [v] [u]:=.cons r .nil
 have hl:([u]++([]:List Value)).length=ps.length:=by have:=F.len _ _ _ _ h;simpa using this
 have hb':=hb s [u] I.kIn hl
 rw [List.append_nil] at hb'
 refine wpAny_call (codeAny_mono (F.run X.A.in1.in1 X.stack s H ⟨[u],[]⟩ [u] [v] Q L2.E0 (L2.Room.in1 (L2.Room.in1 hr)) I.env0.in1.in1 hb' r2 h) fun r s' hq=>?_)
 cases r with
 | error e=>exact hq.elim
 | ok fl =>
  cases fl with
  | ret u=>exact I.after hq
  | next=>exact False.elim hq
  | brk=>exact False.elim hq
  | cont=>exact False.elim hq
theorem key_at {pins:List (Addr × Obj)} {σ:L2.St} {H:Hp} {s:Shared} (I:Inv X pins σ H s) {kd:D} {l:List Int} {v:V} {u:Value} (hk:keyD kd=some l) (hr:Rep X.K H kd v) (ru:RelV v u):∃ n r,l=n::r∧KeyAt s.heap u n r:=by
 unfold keyD at hk
 split at hk
 ·rename_i n xs
  split at hk
  ·rename_i r hr'
   cases hk
   have ex:=ints_of hr'
   subst ex
   refine ⟨n,r,rfl,?_⟩
   have hh:=rep_hr I _ _ _ (by simp [D.dep,D.deps,deps_ints]) hr ru
   simp only [Hr] at hh
   obtain ⟨a,its,rfl,⟨o,ho,hc,c,hd⟩,h2⟩:=hh
   simp only [Hrs,Hr] at h2
   obtain ⟨u1,r1,rfl,⟨t,rfl⟩,u2,r2,rfl,⟨b,its2,rfl,hl2,h3⟩,h4⟩:=h2
   subst h4
   refine ⟨a,o,c,b,t,rfl,ho,hc,hd,its2.toArray,hl2,?_⟩
   have ii:∀ {ns:List Int} {us:List Value},Hrs s (ns.map D.int) us→IntsAre us ns:=by
    intro ns
    induction ns with
    | nil=>intro us h;simp only [List.map_nil,Hrs] at h;subst h;exact .nil
    | cons n ns ih=>intro us h;simp only [List.map_cons,Hrs,Hr] at h;obtain ⟨u,r,rfl,⟨t,rfl⟩,h⟩:=h;exact .cons n t (ih h)
   simpa using ii h3
  ·cases hk
 ·cases hk
end
end PV
set_option linter.all false
set_option Elab.async false
set_option maxRecDepth 100000
set_option maxHeartbeats 4000000
namespace PV
open PySem PySem.W PySem.Spec PyProof.Rows
open L2 (V Hp HO Vals SqL SqT Same upd Cx PE PT PW PA PS PSs TE TT TA TS Inv RelV upd_same upd_ne ne_of_none Un)
section
variable {X:Cx} {pins:List (Addr × Obj)} {σ:L2.St} {H:Hp} {s:Shared} {a b:Addr}
structure Own (X:Cx) (pins:List (Addr × Obj)) (b:Addr):Prop where
 nl:b≠X.env.locals
 s0:X.s₀.heap.objs.size≤b
 nc:∀ x c,X.env.cells.lookup x=some c→c≠b
 np:∀ p ∈ X.pn++pins,p.1≠b
 nf:b ∉ X.fs
theorem own_of (I:Inv X pins σ H s) (h:s.heap.objs.size≤b):Own X pins b :=
 ⟨Nat.ne_of_gt (Nat.lt_of_lt_of_le I.lt h),Nat.le_trans I.sz h,fun x c e z=>by
  obtain ⟨v,o,ho,_⟩:=I.cell x c e
  have:=Heap.lt_size ho
  rw [z] at this
  exact absurd (Nat.lt_of_lt_of_le this h) (Nat.lt_irrefl _),fun p hp z=>by
  have:=Heap.lt_size (I.pin p hp).1
  rw [z] at this
  exact absurd (Nat.lt_of_lt_of_le this h) (Nat.lt_irrefl _),I.nofs h⟩
theorem pin2 {c:Addr} {oa oc:Obj} (I:Inv X pins σ H s) (wa:Own X pins a) (wc:Own X pins c) (ga:s.heap.get? a=some oa) (gc:s.heap.get? c=some oc) (na:H a=none) (nc:H c=none) (da:∀ v,oa.data≠.cell v) (dc:∀ v,oc.data≠.cell v):Inv X ((a,oa)::(c,oc)::pins) σ H s :=
 I.pins_of fun p hp=>by
  rcases List.mem_cons.mp hp with rfl | hp
  ·exact ⟨ga,na,wa.nl,wa.nf,da⟩
  ·rcases List.mem_cons.mp hp with rfl | hp
   ·exact ⟨gc,nc,wc.nl,wc.nf,dc⟩
   ·exact I.pin p (List.mem_append_right _ hp)
theorem unpin2 {pa pc:Addr × Obj} (I:Inv X (pa::pc::pins) σ H s):Inv X pins σ H s:=I.pins_of fun p hp=>I.pin p (List.mem_append_right _ (List.mem_cons_of_mem _ (List.mem_cons_of_mem _ hp)))
theorem track {h':Heap} {vs:List V} {us:List Value} {c t':Nat} (I:Inv X pins σ H s) (w:Own X pins a) (na:H a=none) (k:∀ b o,b≠a→s.heap.get? b=some o→h'.get? b=some o) (g:h'.get? a=some (seqObj "list" us.toArray c)) (hv:Vals vs us) (hz:vs.length≤sizeLine) :
  Inv X pins σ (upd H a (.lst vs)) { s with heap:=h',toks:=t' }:=by
 refine I.step (g':=s.gens) (d':=s.drawn) (ch:=[a]) (fun b hb=>?_) (fun b o _ _ hc e _=>k b o (fun z=>hc (by simp [z])) e) (fun b o _ _ hc e _=>⟨o.slots,k b o (fun z=>hc (by simp [z])) e⟩) (fun b o hc e n=>?_)
  (fun b o hc e=>⟨o,k b o (fun z=>hc (by simp [z])) e⟩) (fun b xs e=>?_) (fun b o u e=>?_) (fun b ps e=>⟨#[],?_⟩) (fun m hm=>?_) (fun b u e=>?_) I.bare
 ·have e:b=a:=by simpa using hb
  subst e
  exact ⟨.inr w.s0,w.nl,w.nc,w.np⟩
 ·rw [upd_ne (fun z=>hc (by simp [z]))];exact n
 ·rw [upd_ne (ne_of_none e na)];exact e
 ·rw [upd_ne (ne_of_none e na)];exact e
 ·rw [upd_ne (ne_of_none e na),e];simp
 ·obtain ⟨o,es,ep,ho,r⟩:=hm
  exact ⟨o,es,ep,k _ o (Ne.symm w.nl) ho,r⟩
 ·by_cases hb:b=a
  ·subst hb
   rw [upd_same] at e
   cases e
   exact ⟨hz,us,c,hv,g⟩
  ·rw [upd_ne hb] at e
   refine (I.hok b u e).stay (fun c v hc q=>k c v ?_ q) (fun c q=>by rw [upd_ne (ne_of_none q na)];exact q) fun c xs q=>by rw [upd_ne (ne_of_none q na)];exact q
   rcases hc with z | z
   ·rw [z];exact hb
   ·exact ne_of_none z na
end
section
variable {X:Cx} {pins:List (Addr × Obj)} {σ:L2.St} {H F:Hp} {s:Shared} {a kS:Addr} {E:Value→Shared→Prop} {P:PySem.Fin→Shared→Prop}
theorem keys_kat {h:Heap}:∀ {us:List Value} {ls:List (List Int)},us.length=ls.length→(∀ i,i < us.length→∃ n r,ls.getD i []=n::r∧KeyAt h (us.getD i .none) n r)→∃ fs,KatTups h us fs∧fs.length=us.length∧∀ v ∈ fs,∃ n t,v=.int n t
 | [],[],_,_=>⟨[],KatTups.nil,rfl,by simp⟩
 | u::us,l::ls,hl,hk=>by
  obtain ⟨n,r,_,ka⟩:=hk 0 (by simp)
  obtain ⟨fs,h1,h2,h3⟩:=keys_kat (us:=us) (ls:=ls) (by simpa using hl) fun i hi=>by
   obtain ⟨n,r,e,k⟩:=hk (i + 1) (by simpa using hi)
   exact ⟨n,r,by simpa [List.getD] using e,by simpa [List.getD] using k⟩
  have ka':KeyAt h u n r:=by simpa [List.getD] using ka
  obtain ⟨a,o,c,b,tk,rfl,g,hc,hd,_⟩:=ka'
  refine ⟨.int n tk::fs,KatTups.cons g hc hd (by simp) h1,by simp [h2],fun v hv=>?_⟩
  rcases List.mem_cons.mp hv with rfl | hv
  ·exact ⟨n,tk,rfl⟩
  ·exact h3 v hv
 | [],_::_,hl,_=>by simp at hl
 | _::_,[],hl,_=>by simp at hl
theorem keyed_end {kA us:List Value} {vs:List V} {ls:List (List Int)} {e e1:Nat} (hu:X.A.units + 64 < cLine) (I:Inv X pins σ H s) (wa:Own X pins a) (wk:Own X pins kS) (hka:kS≠a) (na:H a=none) (nk:H kS=none)
  (ga:s.heap.get? a=some (seqObj "list" #[] e1)) (gk:s.heap.get? kS=some (seqObj "list" kA.toArray e)) (hv:Vals vs us) (hl:kA.length=us.length) (hll:us.length=ls.length) (h64:us.length < 64)
  (hk:∀ i,i < us.length→∃ n r,ls.getD i []=n::r∧KeyAt s.heap (kA.getD i .none) n r)
  (h:∀ p s',Ord us.length (fun i=>ls.getD i []) p→Inv X pins σ (upd H a (.lst (p.map fun i=>vs.getD i .non))) s'→P (.done (.ret .none)) s') :
  wpAny (model X.prog X.w) X.A.in1.in1 (ksk_end a false us.toArray e1 (.ref kS) kA.toArray) P E s:=by
 have hsl:=sizeLine_eq
 have hvl:=hv.length
 have fin:∀ (st:SortSt) (p:List Nat),(arrOf st).map (·.2)=(p.map fun i=>us.getD i .none).toArray→failedOf st=none→Ord us.length (fun i=>ls.getD i []) p→wpAny (model X.prog X.w) X.A.in1.in1 (ksk_tail a false e1 (.ref kS) st) P E s:=by
  intro st p hout hf hord
  have hlen:p.length=us.length:=by rw [hord.pm.length_eq];simp
  have hlt:∀ i ∈ p,i < vs.length:=fun i hi=>by rw [hvl];simpa using hord.pm.mem_iff.mp hi
  unfold ksk_tail
  rw [hout]
  have ga1:(s.heap.update kS (Obj.mapSeq fun _=>(#[]:Array Value))).get? a=some (seqObj "list" #[] e1):=by rw [Heap.get?_update_other _ _ hka];exact ga
  refine wpAny_bind (listUpdate_at gk rfl ?_ (by rw [List.size_toArray];omega) (Nat.zero_le _))
  refine wpAny_bind (wpAny_letGo ?_)
  refine wpAny_bind (seqEpoch_at ga1 rfl ?_)
  simp only [Bool.false_eq_true,if_false]
  refine wpAny_bind (listUpdate_at ga1 rfl ?_ (Nat.zero_le _) (by rw [List.size_toArray,List.length_map];omega))
  rw [hf]
  simp only [bne_self_eq_false,Bool.false_eq_true,if_false]
  refine wpAny_pure (h p _ hord ?_)
  have I1:=I.turned (t':=s.toks) (h':=s.heap.update kS (Obj.mapSeq fun _=>(#[]:Array Value))) (it:=kS) (fun b o hb e=>by rw [Heap.get?_update_other _ _ (Ne.symm hb)];exact e) nk wk.nl (.inr wk.s0) wk.nc wk.np
  exact track (s:={ s with heap:=s.heap.update kS (Obj.mapSeq fun _=>(#[]:Array Value)) }) (t':=s.toks) I1 wa na (fun b o hb e=>by rw [Heap.get?_update_other _ _ (Ne.symm hb)];exact e) (get?_update_seq ga1 fun _=>(p.map fun i=>us.getD i .none).toArray) (vals_perm hv p hlt) (by rw [List.length_map];omega)
 unfold ksk_end
 dsimp only
 simp only [Bool.false_eq_true,if_false]
 by_cases h2:us.toArray.size < 2
 ·rw [if_pos h2,if_pos h2]
  refine wpAny_bind (wpAny_pure ?_)
  rw [StateT.run_pure]
  refine wpAny_bind (wpAny_pure ?_)
  have hz:us.length < 2:=by simpa using h2
  refine fin (SortSt.mk' general' (kA.toArray.zip us.toArray) #[] 7 none) (List.range us.length) ?_ rfl (ord_small hz)
  show (kA.toArray.zip us.toArray).map (·.2)=_
  match us,kA,hz,hl with
  | [],[],_,_=>simp
  | [v],[w],_,_=>simp
 ·rw [if_neg h2,if_neg h2]
  have hz:2≤us.length:=by simp at h2;exact h2
  obtain ⟨fs,t1,t2,t3⟩:=keys_kat (us:=kA) (ls:=ls) (by omega) (fun i hi=>hk i (by omega))
  refine wpAny_bind (kat_kind (T:=.type "int") t1 (by omega) (fun v hv=>?_) (by decide) ?_)
  ·obtain ⟨n,t,rfl⟩:=t3 v hv
   exact fun A Q E s k q=>wpAny_typeOf (T:="int") rfl q
  ·rw [show (Value.type "int" != Value.type "tuple")=true from by decide]
   refine wpAny_bind (wpAny_mono (kat_run (ks:=kA) (vs:=us) (κ:=tuples' true) (Q:=fun st' s'=>s'=s∧∃ p:List Nat,(arrOf st').map (·.2)=(p.map fun i=>us.getD i .none).toArray∧failedOf st'=none∧Ord us.length (fun i=>ls.getD i []) p)
    (G:=fun p s'=>s'=s∧Ord us.length (fun i=>ls.getD i []) p.toList) hl hz h64 (fun p' st' s' a1 a2 a3 a4=>⟨a4.1,p'.toList,kat_snds hl a2,a3,a4.2⟩)
    (sort_w (P:=fun s'=>s'=s) (key:=fun i=>ls.getD i []) (fun i j hi hj C s' hs' hC=>?_) hz rfl fun p' s' hv hu hs'=>⟨hs',ord_of hv hu⟩)) ?_ fun _ _ e=>e)
   ·subst hs'
    obtain ⟨n1,r1,q1,k1⟩:=hk i hi
    obtain ⟨n2,r2,q2,k2⟩:=hk j hj
    show wpAny _ _ (keyLt' (tuples' true) (kA.getD i .none) (kA.getD j .none)) C (fun _ _=>False) _
    have hc:=hC _ rfl
    rw [q1,q2] at hc
    exact key_lt (by simp only [Around.in1];omega) k1 k2 hc
   ·rintro ⟨⟨⟩,st'⟩ s' ⟨rfl,p,hp,hf,hord⟩
    exact fin st' p hp hf hord
end
theorem keysD_get {φ:List D→Option D}:∀ {ds:List D} {ks:List (List Int × D)},keysD φ ds=some ks→ks.length=ds.length∧ks.map (·.2)=ds∧∀ (i:Nat) d,ds[i]?=some d→∃ kd l,φ [d]=some kd∧keyD kd=some l∧ks[i]?=some (l,d)
 | [],ks,h=>by simp only [keysD] at h;cases h;exact ⟨rfl,rfl,by simp⟩
 | x::xs,ks,h=>by
  simp only [keysD] at h
  split at h
  ·rename_i k q h1 h2
   split at h
   ·rename_i l hl
    cases h
    obtain ⟨a1,a2,a3⟩:=keysD_get h2
    refine ⟨by simp [a1],by simp [a2],fun i d hd=>?_⟩
    cases i with
    | zero=>simp at hd;subst hd;exact ⟨k,l,h1,hl,by simp⟩
    | succ i=>simpa using a3 i d (by simpa using hd)
   ·cases h
  ·cases h
theorem reps_snoc {K:PySem.W.Frag} {F:Hp} {d:D} {v:V}:∀ {ds:List D} {vs:List V},Reps K F ds vs→Rep K F d v→Reps K F (ds++[d]) (vs++[v])
 | [],vs,h,k=>by simp only [Reps] at h;subst h;exact Reps.cons k Reps.nil
 | x::ds,vs,h,k=>by
  simp only [Reps] at h
  obtain ⟨v',r,rfl,h2,h3⟩:=h
  exact Reps.cons h2 (reps_snoc h3 k)
theorem vals_snoc {v:V} {u:Value} {vs:List V} {us:List Value} (h:Vals vs us) (r:RelV v u):Vals (vs++[v]) (us++[u]):=h.append (.cons r .nil)
section
variable {X:Cx} {pins:List (Addr × Obj)} {σ:L2.St} {H F:Hp} {s:Shared} {a kS:Addr} {E:Value→Shared→Prop} {P:PySem.Fin→Shared→Prop}
theorem keyed_rest {k : Nat} {fa : Addr} {fd : FuncData} {ps : List Str} {φ : List D → Option D} {us : List Value} {vs : List V} {ds : List D} {ks : List (List Int × D)} {e1 : Nat} (Fn : L2.FnOk X.prog X.w X.K X.mg X.base L2.CX0 k fa fd ps (spR X.K (rk X.K .k) φ)) (hroom : L2.Room (k + 2) X.A) (hb : L2.Binds X.K fd ps [])
    (hu : X.A.units + 64 < cLine) (I : Inv X pins σ H s) (wa : Own X pins a) (wk : Own X pins kS) (hka : kS ≠ a) (na : H a = none) (nk : H kS = none)
    (ga : s.heap.get? a = some (seqObj "list" #[] e1)) (gk : s.heap.get? kS = some (seqObj "list" #[] 0)) (hv : Vals vs us) (h64 : us.length < 64) (fh : Same F H) (hr : Reps X.K F ds vs) (hks : keysD φ ds = some ks)
    (h : ∀ p F' H' s', Ord us.length (fun i => (ks.map (·.1)).getD i []) p → Ext F H F' H' → H' a = none → Inv X pins σ (upd H' a (.lst (p.map fun i => vs.getD i .non))) s' → P (.done (.ret .none)) s') :
    wpAny (model X.prog X.w) X.A.in1.in1 (ksk_rest a (.ref fa) false us.toArray e1 (.ref kS)) P E s := by
  have hsl := sizeLine_eq
  have hvl := hv.length
  have hdl := hr.length
  obtain ⟨kl, k2, k3⟩ := keysD_get hks
  unfold ksk_rest
  refine wpAny_bind (wpAny_rule ?_)
  rw [List.forIn_toArray]
  refine wpAny_bind (ksk_fold (fun i s' => ∃ (F' H' : Hp) (kds : List D) (kvs : List V) (kA : List Value) (e : Nat), Ext F H F' H' ∧ Inv X ((a, seqObj "list" #[] e1) :: (kS, seqObj "list" (List.toArray kA) e) :: pins) σ H' s' ∧ Vals kvs kA ∧ Reps X.K F' kds kvs ∧ kds.length = i ∧ (∀ (j : Nat) (kd : D), kds[j]? = some kd → ∃ d, ds[j]? = some d ∧ φ [d] = some kd)) us 0 s
    ⟨F, H, [], [], [], 0, Ext.refl fh, pin2 I wa wk ga gk na nk (fun v h => by cases h) (fun v h => by cases h), .nil, Reps.nil, rfl, fun j kd q => by cases q⟩ ?step ?done)
  case step =>
    rintro j x s' hx ⟨F', H', kds, kvs, kA, e, z, I', hV, hR, hn, hD⟩
    simp only [Nat.zero_add] at hn ⊢
    have hj : j < us.length := (List.getElem?_eq_some_iff.mp hx).1
    have hjd : j < ds.length := by omega
    have hjv : j < vs.length := by omega
    obtain ⟨kd, l, f1, f2, f3⟩ := k3 j ds[j] (by simp [hjd])
    obtain ⟨u, hu', ru⟩ := hv.get (i := j) (x := vs[j]) (by simp [hjv])
    rw [hx] at hu'; cases hu'
    have hrj : Rep X.K F ds[j] vs[j] := by
      obtain ⟨d, hd, rd⟩ := hr.getV (i := j) (v := vs[j]) (by simp [hjv])
      rw [List.getElem?_eq_getElem hjd] at hd; cases hd; exact rd
    refine wpAny_bind (wpAny_attempt (wpAny_mono (run_key (Q := fun v H2 => ∃ F2, Ext F' H' F2 H2 ∧ Rep X.K F2 kd v) Fn hroom hb I' ru ⟨F', [ds[j]], kd, z.fh, Reps.cons (Rep.mono z.ff _ _ hrj) Reps.nil, f1, fun v F2 H2 z2 r2 => ⟨F2, z2, r2⟩⟩) (fun v s'' he => ?_) fun _ _ hF => hF.elim))
    obtain ⟨v', H2, I2, rv, F2, z2, r2⟩ := he
    dsimp only
    have pk := I2.pin (kS, seqObj "list" (List.toArray kA) e) (List.mem_append_right _ (.tail _ (.head _)))
    have pa := I2.pin (a, seqObj "list" #[] e1) (List.mem_append_right _ (.head _))
    have hkl : kA.length = j := by rw [← hV.length, ← hR.length]; exact hn
    obtain ⟨c2, hc2⟩ : ∃ c2, (s''.heap.update kS (Obj.mapSeq (·.push v))).get? kS = some (seqObj "list" ((List.toArray kA).push v) c2) := ⟨_, get?_update_seq pk.1 (·.push v)⟩
    refine wpAny_bind (listUpdate_at pk.1 rfl ?_ (by rw [List.size_toArray]; omega) (Nat.le_trans (Nat.le_of_eq (Array.size_push ..)) (by rw [List.size_toArray]; omega)))
    refine wpAny_pure ⟨rfl, F2, H2, kds ++ [kd], kvs ++ [v'], kA ++ [v], c2, z.trans z2, ?_, vals_snoc hV rv, reps_snoc (Reps.mono z2.ff _ _ hR) r2, by simp [hn], fun i q hq => ?_⟩
    · have I3 : Inv X pins σ H2 { s'' with heap := s''.heap.update kS (Obj.mapSeq (·.push v)), toks := s''.toks } := (unpin2 I2).turned (it := kS) (fun b o hb e => by rw [Heap.get?_update_other _ _ (Ne.symm hb)]; exact e) pk.2.1 wk.nl (.inr wk.s0) wk.nc wk.np
      refine pin2 I3 wa wk ?_ ?_ pa.2.1 pk.2.1 (fun v h => by cases h) (fun v h => by cases h)
      · show (s''.heap.update kS _).get? a = _
        rw [Heap.get?_update_other _ _ hka]; exact pa.1
      · rw [show (kA ++ [v]).toArray = kA.toArray.push v from by simp]
        exact hc2
    · by_cases hi : i < kds.length
      · rw [List.getElem?_append_left hi] at hq
        exact hD i q hq
      · have hi' : i = kds.length := by
          have := (List.getElem?_eq_some_iff.mp hq).1
          simp at this
          omega
        subst hi'
        simp at hq
        subst hq
        exact ⟨ds[j], by rw [hn]; simp [hjd], f1⟩
  case done =>
    rintro s' ⟨F', H', kds, kvs, kA, e, z, I', hV, hR, hn, hD⟩
    simp only [Nat.zero_add] at hn
    have pk := I'.pin (kS, seqObj "list" (List.toArray kA) e) (List.mem_append_right _ (.tail _ (.head _)))
    have pa := I'.pin (a, seqObj "list" #[] e1) (List.mem_append_right _ (.head _))
    have hkl : kA.length = us.length := by rw [← hV.length, ← hR.length]; exact hn
    refine wpAny_bind (listItems_at pk.1 rfl ?_)
    refine keyed_end (ls := ks.map (·.1)) hu (unpin2 I') wa wk hka pa.2.1 pk.2.1 pa.1 pk.1 hv hkl (by rw [List.length_map, kl]; omega) h64 (fun i hi => ?_) fun p s2 hp I2 => h p F' H' s2 hp z pa.2.1 I2
    have hi1 : i < ds.length := by omega
    have hi2 : i < kds.length := by omega
    obtain ⟨kd, l, f1, f2, f3⟩ := k3 i ds[i] (List.getElem?_eq_getElem hi1)
    obtain ⟨v, hv', rv⟩ := hR.get (i := i) (d := kds[i]) (List.getElem?_eq_getElem hi2)
    obtain ⟨d, hd1, hd2⟩ := hD i kds[i] (List.getElem?_eq_getElem hi2)
    have ed : d = ds[i] := by rw [List.getElem?_eq_getElem hi1] at hd1; cases hd1; rfl
    subst ed
    rw [f1] at hd2
    injection hd2 with hd2
    rw [← hd2] at rv
    obtain ⟨u, hu2, ru⟩ := hV.get hv'
    obtain ⟨n, r, e2, ka⟩ := key_at (unpin2 I') f2 (Rep.mono z.fh _ _ rv) ru
    refine ⟨n, r, ?_, ?_⟩
    · rw [List.getD_eq_getElem?_getD, List.getElem?_map, f3]; exact e2
    · rw [List.getD_eq_getElem?_getD, hu2]; exact ka
theorem keyed_tree {k:Nat} {fa:Addr} {fd:FuncData} {ps:List Str} {φ:List D→Option D} {us:List Value} {vs:List V} {ds:List D} {ks:List (List Int × D)} {n:Nat} (Fn:L2.FnOk X.prog X.w X.K X.mg X.base L2.CX0 k fa fd ps (spR X.K (rk X.K .k) φ)) (hroom:L2.Room (k + 2) X.A) (hb:L2.Binds X.K fd ps [])
  (hu:X.A.units + 64 < cLine) (I:Inv X pins σ H s) (wa:Own X pins a) (na:H a=none)
  (ga:s.heap.get? a=some (seqObj "list" us.toArray n)) (hv:Vals vs us) (h64:us.length < 64) (fh:Same F H) (hr:Reps X.K F ds vs) (hks:keysD φ ds=some ks)
  (h:∀ p F' H' s',Ord us.length (fun i=>(ks.map (·.1)).getD i []) p→Ext F H F' H'→H' a=none→Inv X pins σ (upd H' a (.lst (p.map fun i=>vs.getD i .non))) s'→P (.done (.ret .none)) s') :
  wpAny (model X.prog X.w) X.A.in1.in1 (ksk_tree a (.ref fa) false) P E s:=by
 have hsl:=sizeLine_eq
 unfold ksk_tree
 refine wpAny_bind (listItems_at ga rfl ?_)
 refine wpAny_bind (listUpdate_at ga rfl ?_ (by rw [List.size_toArray];omega) (Nat.zero_le _))
 obtain ⟨e1,ho1⟩:∃ e1,(s.heap.update a (Obj.mapSeq fun _=>(#[]:Array Value))).get? a=some (seqObj "list" #[] e1):=⟨_,get?_update_seq ga fun _=>#[]⟩
 refine wpAny_bind (seqEpoch_at ho1 rfl (wpAny_bind (wpAny_newTuple ?_ (by show us.length≤_;omega))))
 refine wpAny_bind (wpAny_newList (wpAny_holding ?_) (Nat.zero_le _))
 obtain ⟨h2,e2⟩:∃ h2,h2=(s.heap.update a (Obj.mapSeq fun _=>(#[]:Array Value))).push (seqObj "tuple" us.toArray 0):=⟨_,rfl⟩
 have sz2:h2.objs.size=s.heap.objs.size + 1:=by rw [e2,size_push',Heap.size_update]
 show wpAny _ _ (ksk_rest a (.ref fa) false us.toArray e1 (.ref ((s.heap.update a (Obj.mapSeq fun _=>(#[]:Array Value))).push (seqObj "tuple" us.toArray 0)).objs.size)) _ _ { s with heap:=((s.heap.update a (Obj.mapSeq fun _=>(#[]:Array Value))).push (seqObj "tuple" us.toArray 0)).push (seqObj "list" #[] 0) }
 rw [← e2]
 have hlt:a < s.heap.objs.size:=Heap.lt_size ga
 have I3:Inv X pins σ H { s with heap:=h2.push (seqObj "list" #[] 0),toks:=s.toks }:=I.turned (it:=a) (fun b o hb e=>by
  rw [e2]
  refine Heap.get?_push_of_some _ (Heap.get?_push_of_some _ ?_)
  rw [Heap.get?_update_other _ _ (Ne.symm hb)];exact e) na wa.nl (.inr wa.s0) wa.nc wa.np
 refine keyed_rest (s:={ s with heap:=h2.push (seqObj "list" #[] 0),toks:=s.toks }) Fn hroom hb hu I3 wa (own_of I (by omega)) (by rw [sz2];exact Nat.ne_of_gt (Nat.lt_succ_of_lt hlt)) na (I.hok.fresh (by omega)) ?_ (Heap.get?_push_size _ rfl) hv h64 fh hr hks h
 show (h2.push _).get? a=_
 rw [e2]
 exact Heap.get?_push_of_some _ (Heap.get?_push_of_some _ ho1)
theorem keyed_sorted {k:Nat} {fa l:Addr} {fd:FuncData} {ps:List Str} {φ:List D→Option D} {vs:List V} {ds:List D} {ks:List (List Int × D)} {Q:Value→Shared→Prop} (Fn:L2.FnOk X.prog X.w X.K X.mg X.base L2.CX0 k fa fd ps (spR X.K (rk X.K .k) φ)) (hroom:L2.Room (k + 2) X.A) (hb:L2.Binds X.K fd ps [])
  (hu:X.A.units + 64 < cLine) (I:Inv X pins σ H s) (hS:SqL X.K H l vs) (h64:vs.length < 64) (fh:Same F H) (hr:Reps X.K F ds vs) (hks:keysD φ ds=some ks)
  (h:∀ p q F' H' s',Ord vs.length (fun i=>(ks.map (·.1)).getD i []) p→Ext F H F' H'→H q=none→H' q=none→Inv X pins σ (upd H' q (.lst (p.map fun i=>vs.getD i .non))) s'→Q (.ref q) s') :
  wpAny (model X.prog X.w) X.A (call (.builtin "sorted") [.ref l] [(Str.ofString "key",.ref fa)]) Q E s:=by
 have hsl:=sizeLine_eq
 obtain ⟨us,rv,pl,z⟩:=I.list hS
 have hvl:=rv.length
 refine call_function_entry_kw kind_sorted plain_sorted entry_sorted (ksk_s1 _ _) ?_
 unfold Builtin.«sorted»
 refine wpAny_bind (m:=checkCount "sorted" 1 1 _) (wpAny_pure (wpAny_bind (collect_list pl.isList ?_ (by omega))))
 refine wpAny_bind (wpAny_newList ?_ (by omega))
 obtain ⟨h2,e2⟩:∃ h2,h2=(s.heap.push (seqObj "list" #[] 0)).update s.heap.objs.size (Obj.mapSeq (·++us.toArray)):=⟨_,rfl⟩
 have sz2:h2.objs.size=s.heap.objs.size + 1:=by rw [e2,Heap.size_update,size_push']
 have up3:∀ b o,s.heap.get? b=some o→(h2.push (seqObj "list" us.toArray 0)).get? b=some o:=fun b o e=>by
  refine Heap.get?_push_of_some _ ?_
  rw [e2,Heap.get?_update_other _ _ (Nat.ne_of_gt (Heap.lt_size e))]
  exact Heap.get?_push_of_some _ e
 show wpAny _ _ _ _ _ { s with heap:=((s.heap.push (seqObj "list" #[] 0)).update s.heap.objs.size (Obj.mapSeq (·++us.toArray))).push (seqObj "list" us.toArray 0) }
 rw [← e2]
 have g3:(h2.push (seqObj "list" us.toArray 0)).get? h2.objs.size=some (seqObj "list" us.toArray 0):=Heap.get?_push_size _ rfl
 refine wpAny_bind (wpAny_holding (wpAny_call_entry_kw slot_list_sort ⟨_,g3,rfl⟩ entry_list_sort ?_ (ksk_l1 _ _)))
 show wpAny (model X.prog X.w) X.A.in1.in1 (Builtin.«list.sort» ⟨[.ref h2.objs.size],[(Str.ofString "key",.ref fa)]⟩) _ _ _
 rw [ksk_t1]
 refine keyed_tree (s:={ s with heap:=h2.push (seqObj "list" us.toArray 0),toks:=s.toks }) Fn hroom hb hu (I.kept up3) (own_of I (by omega)) (I.hok.fresh (by omega)) g3 rv (by omega) fh hr hks fun p F' H' s' hp z' hn I'=>⟨_,rfl,wpAny_pure ⟨_,rfl,h p h2.objs.size F' H' s' (by rw [hvl];exact hp) z' (I.hok.fresh (by omega)) hn I'⟩⟩
end
end PV
set_option linter.all false
set_option Elab.async false
set_option maxRecDepth 100000
set_option maxHeartbeats 4000000
namespace PV
open PySem PySem.W PySem.Spec PyProof.Rows
open L2 (V Hp HO Vals SqL SqT Same upd Cx PE PT PW PA PS PSs TE TT TA TS Inv RelV upd_same upd_ne ne_of_none Un)
theorem repsN_perm {H:Hp} {ds:List D} {vs:List V} (h:RepsN H ds vs):∀ (p:List Nat),(∀ i ∈ p,i < vs.length)→RepsN H (p.map fun i=>ds.getD i .non) (p.map fun i=>vs.getD i .non)
 | [],_=>by simp [RepsN]
 | i::p,hp=>by
  have hi:=hp i List.mem_cons_self
  have at':∀ {ds:List D} {vs:List V} (i:Nat),RepsN H ds vs→i < vs.length→RepN H (ds.getD i .non) (vs.getD i .non):=by
   intro ds
   induction ds with
   | nil=>intro vs i h hi;simp only [RepsN] at h;subst h;simp at hi
   | cons d ds ih =>
    intro vs i h hi
    simp only [RepsN] at h
    obtain ⟨v,r,rfl,h2,h3⟩:=h
    cases i with
    | zero=>simpa using h2
    | succ i=>simpa using ih i h3 (by simpa using hi)
  simp only [List.map_cons,RepsN]
  exact ⟨_,_,rfl,at' i h hi,repsN_perm h p fun j hj=>hp j (List.mem_cons_of_mem _ hj)⟩
theorem inj_keys {ks:List (List Int × D)} (nd:(ks.map (·.1)).Nodup) {x y:List Int × D} (hx:x ∈ ks) (hy:y ∈ ks) (h:x.1=y.1):x=y:=by
 induction ks with
 | nil=>cases hx
 | cons k ks ih =>
  simp only [List.map_cons,List.nodup_cons] at nd
  rcases List.mem_cons.mp hx with rfl | hx' <;> rcases List.mem_cons.mp hy with rfl | hy'
  ·rfl
  ·exact absurd (List.mem_map.mpr ⟨y,hy',h.symm⟩) nd.1
  ·exact absurd (List.mem_map.mpr ⟨x,hx',h⟩) nd.1
  ·exact ih nd.2 hx' hy'
theorem ord_srtK {ks:List (List Int × D)} {p:List Nat} (nd:(ks.map (·.1)).Nodup) (h:Ord ks.length (fun i=>(ks.map (·.1)).getD i []) p):(srtB (fun p:List Int × D=>p.1) ks).map (fun p=>p.2)=p.map fun i=>(ks.map (·.2)).getD i .non:=by
 have hlen:p.length=ks.length:=by rw [h.pm.length_eq];simp
 have hlt:∀ i ∈ p,i < ks.length:=fun i hi=>by simpa using h.pm.mem_iff.mp hi
 have p1:(p.map fun i=>ks.getD i ([],.non)).Perm ks:=by
  have:=h.pm.map fun i=>ks.getD i ([],.non)
  rwa [range_map] at this
 have e:p.map (fun i=>ks.getD i ([],.non))=srtB (fun p:List Int × D=>p.1) ks:=by
  refine (p1.trans (srtB_perm _ ks).symm).eq_of_pairwise (fun x y hx hy h1 h2=>inj_keys nd (p1.mem_iff.mp hx) ((srtB_perm _ ks).mem_iff.mp hy) (leL.anti h1 h2)) ?_ (srtB_up (fun p:List Int × D=>p.1) ks)
  rw [List.pairwise_iff_getElem]
  intro i j hi hj hij
  simp only [List.length_map] at hi hj
  have:=h.up i j (Nat.le_of_lt hij) (by omega)
  have hi':=hlt p[i] (List.getElem_mem hi)
  have hj':=hlt p[j] (List.getElem_mem hj)
  simpa [List.getD,hi,hj,hi',hj'] using this
 rw [← e,List.map_map]
 refine List.map_congr_left fun i hi=>?_
 have:=hlt i hi
 simp [List.getD,this]
section
variable {X:Cx} {m m1 m2:Md} {r:RetP} {a b e:Expr} {f g:Ex} {pos p p2:Pos}
theorem pl_sortby (i:Nat) {k:Nat} {x fx:Str} {φ:List D→Option D} {p1 p3 kpos:Pos} (G:Cal X.prog X.w X.K X.mg X.base k fx (rk X.K .k) φ) (hr:L2.Room (k + 2) X.A) (T:Bt X.mg) (hu:X.A.units + 64 < cLine) (hg:X.env.kindOf "sorted"=some .globalImplicit:=by kernel_rfl) (hgf:X.env.kindOf fx=some .globalImplicit:=by kernel_rfl) (hdf:(fx == ("__debug__":Str))=false:=by kernel_rfl)
  (hN:X.N[i]?=some x:=by kernel_rfl) (hv:visB X.env.scope x=true:=by kernel_rfl) (hd:(x == ("__debug__":Str))=false:=by kernel_rfl) (hcd:(x == ("__classdict__":Str))=false:=by kernel_rfl) :
  PDl X (.Call (.Name "sorted" p) [.Name x p1] [⟨some "key",.Name fx p3,kpos⟩] pos) (eF1 (fSortK φ) (eVarW i)):=⟨fun pins s σ H Q I ⟨BF,BH,F,env,L,ds',S,e,q⟩=>by
 unfold eF1 eVarW at e
 split at e
 ·rename_i y hy
  split at hy
  ·rename_i ds he
   cases hy
   simp only [fSortK] at e
   split at e
   ·rename_i ks hks
    split at e
    ·rename_i hc
     cases e
     obtain ⟨p0,vs,hσ,hl,hp,rr⟩:=sl_nw S he
     have reps:Reps X.K F ds vs:=RepsN.reps _ _ (RepsN.mono cut_sub _ _ rr)
     obtain ⟨kl,k2,_⟩:=keysD_get hks
     have hvl:vs.length=ks.length:=by rw [kl];exact reps.length.symm
     obtain ⟨fa,fd,ps,h1,h2,h3,h4⟩:=G.ex
     refine wpAny_Call_Name_kw (L2.ld_blt I hg T.sorted boot_sorted ?_)
     refine callWith_kw (L2.thn ((L2.pa_cons (L2.pe_var hN (visB_ok hv) hd hcd) L2.pa_nil (star_one rfl)) pos pins s σ H (fun xs H1=>xs=[.ref p0]∧H1=H) I ⟨_,hσ,rfl,rfl⟩) fun us s1 ⟨xs,H1,I1,r1,e1,e2⟩=>?_)
     subst e1 e2
     obtain ⟨u,rfl,ru⟩:=r1.one
     cases ru
     refine L2.thn ((L2.pk_cons (nm:=some "key") (kpos:=kpos) (L2.pe_glob (pos:=p3) hgf h1 (v:=.ref fa) rfl hdf) L2.pk_nil) pos pins s1 σ H1 (fun zs H2=>zs=[.ref fa]∧H2=H1) I1 ⟨rfl,rfl⟩) fun ws s2 ⟨zs,H2,I2,rz,e1,e2⟩=>?_
     subst e1 e2
     obtain ⟨u,rfl,ru⟩:=rz.one
     cases ru
     show wpAny _ _ (call (.builtin "sorted") [.ref p0] [(Str.ofString "key",.ref fa)]) _ _ _
     refine keyed_sorted h3 hr h4 hu I2 (.inl (.inl hp)) (by omega) S.fh reps hks fun pm q' F' H' s' hord z hq hq' I'=>⟨.ref q',_,I',rfl,q q' _ F' _ (z.trans (Ext.own z.fh hq')) hq upd_same (z.fh.free hq') ?_⟩
     rw [hvl] at hord
     have hlt:∀ i ∈ pm,i < vs.length:=fun i hi=>by rw [hvl];simpa using hord.pm.mem_iff.mp hi
     rw [ord_srtK hc.2 hord,k2]
     exact repsN_perm (RepsN.mono (cut_mono z.ff) _ _ rr) pm hlt
    ·cases e
   ·cases e
  ·cases hy
 ·cases e⟩
theorem fSortK_inv {φ:List D→Option D} {env:Env} {d:D} (h:eF1 (fSortK φ) f env=some d):∃ ds,d=.lst ds:=by
 unfold eF1 at h
 split at h
 ·unfold fSortK at h
  split at h
  ·split at h
   ·split at h
    ·cases h;exact ⟨_,rfl⟩
    ·cases h
   ·cases h
  ·cases h
 ·cases h
theorem pn_sortby (i:Nat) {k:Nat} {x fx:Str} {φ:List D→Option D} {p1 p3 kpos:Pos} (G:Cal X.prog X.w X.K X.mg X.base k fx (rk X.K .k) φ) (hr:L2.Room (k + 2) X.A) (T:Bt X.mg) (hu:X.A.units + 64 < cLine) (hg:X.env.kindOf "sorted"=some .globalImplicit:=by kernel_rfl) (hgf:X.env.kindOf fx=some .globalImplicit:=by kernel_rfl) (hdf:(fx == ("__debug__":Str))=false:=by kernel_rfl)
  (hN:X.N[i]?=some x:=by kernel_rfl) (hv:visB X.env.scope x=true:=by kernel_rfl) (hd:(x == ("__debug__":Str))=false:=by kernel_rfl) (hcd:(x == ("__classdict__":Str))=false:=by kernel_rfl) :
  PDn X (.Call (.Name "sorted" p) [.Name x p1] [⟨some "key",.Name fx p3,kpos⟩] pos) (eF1 (fSortK φ) (eVarW i)):=(pl_sortby i G hr T hu hg hgf hdf hN hv hd hcd).n fun env d h=>fSortK_inv h
end
end PV
set_option Elab.async false
set_option linter.all false
set_option maxRecDepth 100000
namespace L2
open PySem PySem.Spec PyProof.Rows
section
variable {κ:Type} [DecidableEq κ]
def valV (kvs:List (κ × V)) (k:κ):Option V:=(kvs.find? fun kv=>decide (kv.1=k)).map (·.2)
def putK (kvs:List (κ × V)) (k:κ) (v:V):List (κ × V) :=
 if (kvs.any fun kv=>decide (kv.1=k))=true then kvs.map (fun kv=>if kv.1=k then (kv.1,v) else kv) else kvs++[(k,v)]
def dropK (kvs:List (κ × V)) (k:κ):List (κ × V):=kvs.filter fun kv=>decide (kv.1≠k)
theorem valV_pos {p:κ × V} {r:List (κ × V)} {k:κ} (e:p.1=k):valV (p::r) k=some p.2:=by simp [valV,List.find?_cons,e]
theorem valV_neg {p:κ × V} {r:List (κ × V)} {k:κ} (e:¬ p.1=k):valV (p::r) k=valV r k:=by simp [valV,List.find?_cons,e]
theorem valV_any (k:κ):∀ kvs:List (κ × V),(kvs.any fun kv=>decide (kv.1=k))=(valV kvs k).isSome
 | []=>rfl
 | p::r=>by
  rw [List.any_cons]
  by_cases e:p.1=k
  ·simp only [valV_pos e,decide_eq_true e,Bool.true_or,Option.isSome_some]
  ·rw [valV_neg e,decide_eq_false e,Bool.false_or];exact valV_any k r
theorem length_putK (kvs:List (κ × V)) (k:κ) (v:V):(putK kvs k v).length≤kvs.length + 1:=by
 unfold putK
 split
 ·rw [List.length_map];omega
 ·rw [List.length_append,List.length_cons,List.length_nil];omega
theorem RelO.isSome_eq {o:Option V} {u:Option Value} (r:RelO o u):o.isSome=u.isSome:=by
 cases o with
 | none=>cases u with
  | none=>rfl
  | some _=>exact (show False from r).elim
 | some _=>cases u with
  | none=>exact (show False from r).elim
  | some _=>rfl
theorem RelO.getD {o:Option V} {u:Option Value} {d:V} {d':Value} (r:RelO o u) (rd:RelV d d'):RelV (o.getD d) (u.getD d'):=by
 cases o with
 | none=>cases u with
  | none=>exact rd
  | some _=>exact (show False from r).elim
 | some _=>cases u with
  | none=>exact (show False from r).elim
  | some _=>exact r
theorem KV.val {kvs:List (κ × V)} {vs:List (κ × Value)} (r:KV kvs vs) (k:κ):RelO (valV kvs k) (valueAt vs k):=by
 unfold KV at r
 induction r with
 | nil=>exact True.intro
 | @cons p q ps qs h t ih =>
  obtain ⟨h1,h2⟩:=h
  by_cases e:p.1=k
  ·have e':q.1=k:=h1.symm.trans e
   have b:valueAt (q::qs) k=some q.2:=by simp [valueAt,List.find?_cons,e']
   rw [valV_pos e,b];exact h2
  ·have e':¬ q.1=k:=fun z=>e (h1.trans z)
   have b:valueAt (q::qs) k=valueAt qs k:=by simp [valueAt,List.find?_cons,e']
   rw [valV_neg e,b];exact ih
theorem KV.any {kvs:List (κ × V)} {vs:List (κ × Value)} (r:KV kvs vs) (k:κ):(kvs.any fun kv=>decide (kv.1=k))=vs.any fun kv=>decide (kv.1=k):=by
 unfold KV at r
 induction r with
 | nil=>rfl
 | cons h t ih=>rw [List.any_cons,List.any_cons,ih,h.1]
theorem KV.repl {kvs:List (κ × V)} {vs:List (κ × Value)} (r:KV kvs vs) (k:κ) {y:V} {u:Value} (ry:RelV y u) :
  KV (kvs.map fun kv=>if kv.1=k then (kv.1,y) else kv) (vs.map fun kv=>if kv.1=k then (kv.1,u) else kv):=by
 unfold KV at r ⊢
 induction r with
 | nil=>exact .nil
 | @cons p q ps qs h t ih =>
  rw [List.map_cons,List.map_cons]
  refine .cons ?_ ih
  obtain ⟨h1,h2⟩:=h
  by_cases e:p.1=k
  ·rw [if_pos e,if_pos (h1.symm.trans e)];exact ⟨h1,ry⟩
  ·rw [if_neg e,if_neg (fun z=>e (h1.trans z))];exact ⟨h1,h2⟩
theorem KV.put {kvs:List (κ × V)} {vs:List (κ × Value)} (r:KV kvs vs) (k:κ) {y:V} {u:Value} (ry:RelV y u):KV (putK kvs k y) (stored vs k u):=by
 unfold putK stored
 rw [r.any k]
 by_cases e:(vs.any fun kv=>decide (kv.1=k))=true
 ·rw [if_pos e,if_pos e];exact r.repl k ry
 ·rw [if_neg e,if_neg e];exact Paired.snoc r ⟨rfl,ry⟩
theorem KV.drop {kvs:List (κ × V)} {vs:List (κ × Value)} (r:KV kvs vs) (k:κ):KV (dropK kvs k) (without vs k):=by
 unfold KV at r ⊢
 unfold dropK without
 induction r with
 | nil=>exact .nil
 | @cons p q ps qs h t ih =>
  obtain ⟨h1,h2⟩:=h
  rw [List.filter_cons,List.filter_cons]
  by_cases e:p.1=k
  ·have a:¬ decide (p.1≠k)=true:=by simp [e]
   have b:¬ decide (q.1≠k)=true:=by simp [h1.symm.trans e]
   rw [if_neg a,if_neg b];exact ih
  ·have e':¬ q.1=k:=fun z=>e (h1.trans z)
   have a:decide (p.1≠k)=true:=by simp [e]
   have b:decide (q.1≠k)=true:=by simp [e']
   rw [if_pos a,if_pos b];exact .cons ⟨h1,h2⟩ ih
theorem KV.keys {kvs:List (κ × V)} {vs:List (κ × Value)} (r:KV kvs vs):kvs.map (·.1)=vs.map (·.1):=by
 unfold KV at r
 induction r with
 | nil=>rfl
 | cons h t ih=>rw [List.map_cons,List.map_cons,ih,h.1]
theorem KV.length {kvs:List (κ × V)} {vs:List (κ × Value)} (r:KV kvs vs):kvs.length=vs.length:=Paired.length r
end
theorem kV_is {P:Program} {w:World} {k:Key} {u:Value} (r:RelV (kV k) u):(mixKind P w).is k u=true:=by
 cases k with
 | inl i=>obtain ⟨t,e⟩:=(show ∃ t,u=Value.int i t from r);subst e;exact mixKind_int P w i t
 | inr x=>obtain ⟨t,e⟩:=(show ∃ t,u=Value.str x t from r);subst e;exact mixKind_str P w x t
theorem items_are {P:Program} {w:World}:∀ {ks:List Key} {us:List Value},Vals (ks.map kV) us→ItemsAre (mixKind P w) ks us
 | [],_,r=>by rw [List.map_nil] at r;cases r;exact .nil
 | k::ks,_,r=>by
  rw [List.map_cons] at r
  cases r with
  | cons h t=>exact .cons (kV_is h) (items_are t)
abbrev KT (H:Hp):List (List Key × V)→List (List Key × Addr × Value)→Prop:=Paired fun p q=>p.1=q.1∧H q.2.1=some (.tup (p.1.map kV))∧RelV p.2 q.2.2
theorem KT.val {H:Hp} {kvs:List (List Key × V)} {xs:List (List Key × Addr × Value)} (r:KT H kvs xs) (k:List Key):RelO (valV kvs k) ((atKey xs k).map (·.2)):=by
 induction r with
 | nil=>exact True.intro
 | @cons p q ps qs h t ih =>
  obtain ⟨h1,_,h2⟩:=h
  by_cases e:p.1=k
  ·have e':q.1=k:=h1.symm.trans e
   have b:atKey (q::qs) k=some q.2:=by simp [atKey,List.find?_cons,e']
   rw [valV_pos e,b];exact h2
  ·have e':¬ q.1=k:=fun z=>e (h1.trans z)
   have b:atKey (q::qs) k=atKey qs k:=by simp [atKey,List.find?_cons,e']
   rw [valV_neg e,b];exact ih
theorem KT.repl {H:Hp} {kvs:List (List Key × V)} {xs:List (List Key × Addr × Value)} (r:KT H kvs xs) (k:List Key) {y:V} {u:Value} (ry:RelV y u) :
  KT H (kvs.map fun kv=>if kv.1=k then (kv.1,y) else kv) (xs.map (putAt k u)):=by
 induction r with
 | nil=>exact .nil
 | @cons p q ps qs h t ih =>
  rw [List.map_cons,List.map_cons]
  refine .cons ?_ ih
  obtain ⟨h1,h2,h3⟩:=h
  unfold putAt
  by_cases e:p.1=k
  ·rw [if_pos e,if_pos (h1.symm.trans e)];exact ⟨h1,h2,ry⟩
  ·rw [if_neg e,if_neg (fun z=>e (h1.trans z))];exact ⟨h1,h2,h3⟩
theorem KT.put {H:Hp} {kvs:List (List Key × V)} {xs:List (List Key × Addr × Value)} (r:KT H kvs xs) (k:List Key) {b:Addr} {y:V} {u:Value} (hb:H b=some (.tup (k.map kV))) (ry:RelV y u) :
  KT H (putK kvs k y) (storedH xs k b u):=by
 have e:(kvs.any fun kv=>decide (kv.1=k))=(atKey xs k).isSome:=by
  rw [valV_any,(r.val k).isSome_eq,Option.isSome_map]
 unfold putK storedH
 rw [e]
 by_cases q:(atKey xs k).isSome=true
 ·rw [if_pos q,if_pos q];exact r.repl k ry
 ·rw [if_neg q,if_neg q];exact Paired.snoc r ⟨rfl,hb,ry⟩
theorem KT.keeps {H H':Hp} {kvs:List (List Key × V)} {xs:List (List Key × Addr × Value)} (r:KT H kvs xs) (ht:∀ b ys,H b=some (.tup ys)→H' b=some (.tup ys)):KT H' kvs xs :=
 Paired.mapP r fun _ _ z=>⟨z.1,ht _ _ z.2.1,z.2.2⟩
section
variable {P:Program} {w:World} {H:Hp} {h:Heap} {a:Addr}
theorem rd_of {u:HO} (ok:HOk P w H h) (e:Rd H a u):ObjOk P w H h a u:=e.ok ok
theorem dk_rd {kvs:List (Key × V)} (ok:HOk P w H h) (e:Rd H a (.dK kvs)):kvs.length≤sizeLine∧(a == sysModules)=false∧∃ vs,KV kvs vs∧h.DictOf (mixKind P w) a vs :=
 show ObjOk P w H h a (.dK kvs) from rd_of ok e
theorem dk_of {kvs:List (Key × V)} (ok:HOk P w H h) (e:H a=some (.dK kvs)):kvs.length≤sizeLine∧(a == sysModules)=false∧∃ vs,KV kvs vs∧h.DictOf (mixKind P w) a vs:=dk_rd ok (.inl e)
theorem key_of {ks:List Key} (ok:HOk P w H h) (e:H a=some (.tup (ks.map kV))):(tupleKind (mixKind P w)).is h ks a:=by
 obtain ⟨_,its,r,o,h1,h2,n,h3⟩:=(show ObjOk P w H h a (.tup (ks.map kV)) from ok a _ e)
 exact ⟨o,its.toArray,n,h1,h2,h3,by simpa using items_are r⟩
theorem dt_rd {kvs:List (List Key × V)} (ok:HOk P w H h) (e:Rd H a (.dT kvs)):kvs.length≤sizeLine∧(a == sysModules)=false ∧
  ∃ xs,KT H kvs xs∧h.DictOfH (tupleKind (mixKind P w)) a xs:=by
 obtain ⟨z,y,xs,r,o,es,ep,h1,h2,h3,h4,h5⟩:=(show ObjOk P w H h a (.dT kvs) from rd_of ok e)
 refine ⟨z,y,xs,r,o,es,ep,h1,h2,h3,h4,fun x hx=>?_,h5⟩
 have all:∀ {l:List (List Key × V)} {m:List (List Key × Addr × Value)},KT H l m→∀ x ∈ m,(tupleKind (mixKind P w)).is h x.1 x.2.1:=by
  intro l m q
  induction q with
  | nil=>intro x hx;exact nomatch hx
  | @cons p q ps qs hq t ih =>
   intro x hx
   rcases List.mem_cons.mp hx with e | hx
   ·subst e
    exact key_of ok (by rw [← hq.1];exact hq.2.1)
   ·exact ih x hx
 exact all r x hx
theorem dt_of {kvs:List (List Key × V)} (ok:HOk P w H h) (e:H a=some (.dT kvs)):kvs.length≤sizeLine∧(a == sysModules)=false ∧
  ∃ xs,KT H kvs xs∧h.DictOfH (tupleKind (mixKind P w)) a xs:=dt_rd ok (.inl e)
end
def DGet (H:Hp) (a:Addr) (y:V) (r:Option V):Prop :=
 (∃ kvs k,Rd H a (.dK kvs)∧y=kV k∧r=valV kvs k)∨∃ kvs k b,Rd H a (.dT kvs)∧y=.ref b∧H b=some (.tup (k.map kV))∧r=valV kvs k
def DPut (H:Hp) (a:Addr) (y v:V) (H':Hp):Prop :=
 (∃ kvs k,H a=some (.dK kvs)∧y=kV k∧kvs.length < sizeLine∧H'=upd H a (.dK (putK kvs k v))) ∨
 ∃ kvs k b,H a=some (.dT kvs)∧y=.ref b∧H b=some (.tup (k.map kV))∧kvs.length < sizeLine∧H'=upd H a (.dT (putK kvs k v))
theorem DGet.k {H:Hp} {a:Addr} {kvs:List (Key × V)} {k:Key} (e:H a=some (.dK kvs)):DGet H a (kV k) (valV kvs k):=.inl ⟨kvs,k,.inl e,rfl,rfl⟩
theorem DGet.t {H:Hp} {a b:Addr} {kvs:List (List Key × V)} {k:List Key} (e:H a=some (.dT kvs)) (eb:H b=some (.tup (k.map kV))):DGet H a (.ref b) (valV kvs k):=.inr ⟨kvs,k,b,.inl e,rfl,eb,rfl⟩
theorem DPut.k {H:Hp} {a:Addr} {kvs:List (Key × V)} {k:Key} {v:V} (e:H a=some (.dK kvs)) (hl:kvs.length < sizeLine):DPut H a (kV k) v (upd H a (.dK (putK kvs k v))):=.inl ⟨kvs,k,e,rfl,hl,rfl⟩
theorem DPut.t {H:Hp} {a b:Addr} {kvs:List (List Key × V)} {k:List Key} {v:V} (e:H a=some (.dT kvs)) (eb:H b=some (.tup (k.map kV))) (hl:kvs.length < sizeLine) :
  DPut H a (.ref b) v (upd H a (.dT (putK kvs k v))):=.inr ⟨kvs,k,b,e,rfl,eb,hl,rfl⟩
section
variable {X:Cx} {pins:List (Addr × Obj)} {σ:St} {H:Hp} {s:Shared} {a:Addr} {y v:V} {u r:Value} {o:Option V} {A:Around} {E:Value→Shared→Prop}
theorem Inv.big (I:Inv X pins σ H s):sysModules < s.heap.objs.size:=by
 have h:mainGlobals < s.heap.objs.size:=(I.mod.glob.keeps I.bk).lt
 exact Nat.lt_trans (by decide) h
theorem d_getItem {Q:Value→Shared→Prop} (hu:A.units + 1 < cLine) (I:Inv X pins σ H s) (g:DGet H a y (some v)) (ry:RelV y u) (h:∀ w' s',Inv X pins σ H s'→RelV v w'→Q w' s') :
  wpAny (model X.prog X.w) A (getItem (.ref a) u) Q E s:=by
 rcases g with ⟨kvs,k,e,ey,l⟩ | ⟨kvs,k,b,e,ey,eb,l⟩
 ·subst ey
  obtain ⟨z,hd,vs,rel,dd⟩:=dk_rd I.hok e
  obtain ⟨w',hw,rw'⟩:=RelO.some_of (v:=v) (o:=valueAt vs k) (by rw [l];exact rel.val k)
  exact wpAny_getItem_of (kV_is ry) dd.mapOf hw (h w' _ (I.tok _) rw')
 ·subst ey
  cases (show u=Value.ref b from ry)
  obtain ⟨z,hd,xs,rel,dd⟩:=dt_rd I.hok e
  obtain ⟨w',hw,rw'⟩:=RelO.some_of (v:=v) (o:=(atKey xs k).map (·.2)) (by rw [l];exact rel.val k)
  obtain ⟨p,hp,hp2⟩:=Option.map_eq_some_iff.mp hw
  refine wpAny_getItem_heap (tupleKind_room_in1 hu) (key_of I.hok eb) dd hp ?_
  rw [hp2]
  exact h w' _ (I.tok _) rw'
theorem d_in {Q:Value→Shared→Prop} (hu:A.units + 1 < cLine) (I:Inv X pins σ H s) (g:DGet H a y o) (ry:RelV y u) (h:∀ s',Inv X pins σ H s'→Q (.bool o.isSome) s') :
  wpAny (model X.prog X.w) A (compareOp .In u (.ref a)) Q E s:=by
 rcases g with ⟨kvs,k,e,ey,l⟩ | ⟨kvs,k,b,e,ey,eb,l⟩
 ·subst ey
  obtain ⟨z,hd,vs,rel,dd⟩:=dk_rd I.hok e
  refine wpAny_in_of (kV_is ry) hd dd.mapOf ?_
  rw [← (rel.val k).isSome_eq,← l]
  exact h _ (I.tok _)
 ·subst ey
  cases (show u=Value.ref b from ry)
  obtain ⟨z,hd,xs,rel,dd⟩:=dt_rd I.hok e
  refine wpAny_in_heap (tupleKind_room_in1 hu) (key_of I.hok eb) hd dd ?_
  have q:=(rel.val k).isSome_eq
  rw [Option.isSome_map] at q
  rw [← q,← l]
  exact h _ (I.tok _)
theorem d_write {h':Heap} {t':Nat} {ob:HO} (I:Inv X pins σ H s) (mu:Mut (H a)) (hs:Heap.SameBut a s.heap h') (he:∃ q,h'.get? a=some q) (new:ObjOk X.prog X.w (upd H a ob) h' a ob) :
  Inv X pins σ (upd H a ob) { s with heap:=h',toks:=t' } :=
 I.write (x:=a) (e:=a) mu (.inl rfl) (fun b q hb z=>(hs.2 b hb).trans z) he new
theorem dk_new {P:Program} {w:World} {H':Hp} {h':Heap} {kvs:List (Key × V)} {vs:List (Key × Value)} (z:kvs.length≤sizeLine) (hd:(a == sysModules)=false) (rel:KV kvs vs) (dd:h'.DictOf (mixKind P w) a vs) :
  ObjOk P w H' h' a (.dK kvs):=⟨z,hd,vs,rel,dd⟩
theorem d_setItem {H':Hp} {Q:Unit→Shared→Prop} (hu:A.units + 1 < cLine) (I:Inv X pins σ H s) (g:DPut H a y v H') (ry:RelV y u) (rv:RelV v r) (h:∀ s',Inv X pins σ H' s'→Q () s') :
  wpAny (model X.prog X.w) A (setItem (.ref a) u r) Q E s:=by
 rcases g with ⟨kvs,k,e,ey,l,eH⟩ | ⟨kvs,k,b,e,ey,eb,l,eH⟩
 ·subst ey eH
  obtain ⟨z,hd,vs,rel,dd⟩:=dk_of I.hok e
  have hz:vs.length≤sizeLine:=by rw [← rel.length];exact z
  have hl:(putK kvs k v).length≤sizeLine:=by have:=length_putK kvs k v;omega
  refine wpAny_setItem_pairs (hsz:=hz) (kV_is ry) dd fun h' dd' hs=>h _ ?_
  have he:∃ q,h'.get? a=some q:=let ⟨q,_,_,hq,_⟩:=dd';⟨q,hq⟩
  exact d_write I (by rw [e];exact True.intro) hs he (dk_new hl hd (rel.put k rv) dd')
 ·subst ey eH
  cases (show u=Value.ref b from ry)
  obtain ⟨z,hd,xs,rel,dd⟩:=dt_of I.hok e
  have hz:xs.length≤sizeLine:=by rw [← Paired.length rel];exact z
  have hl:(putK kvs k v).length≤sizeLine:=by have:=length_putK kvs k v;omega
  refine wpAny_setItem_heap (hsz:=hz) (tupleKind_room_in1 hu) (key_of I.hok eb) dd fun h' dd' hs=>h _ ?_
  obtain ⟨q,es,ep,hq,h2,h3,h4,_,h5⟩:=dd'
  refine d_write I (by rw [e];exact True.intro) hs ⟨q,hq⟩ ⟨hl,hd,_,(rel.put k eb rv).keeps fun c ys ec=>?_,q,es,ep,hq,h2,h3,h4,h5⟩
  rw [upd_ne (ne_of ec e (fun z=>nomatch z))]
  exact ec
end
section
variable {X:Cx} {pins:List (Addr × Obj)} {σ:St} {H:Hp} {s:Shared} {a:Addr} {kvs:List (Key × V)} {k:Key} {u:Value} {A:Around} {E:Value→Shared→Prop}
theorem d_len {Q:Value→Shared→Prop} (I:Inv X pins σ H s) (e:Rd H a (.dK kvs)) (h:∀ t s',Inv X pins σ H s'→Q (.int kvs.length t) s'):wpAny (model X.prog X.w) A (call (.builtin "len") [.ref a]) Q E s:=by
 obtain ⟨z,hd,vs,rel,dd⟩:=dk_rd I.hok e
 refine call_len_dict hd dd (by rw [← rel.length];rw [sizeLine_eq] at z;omega) ?_
 rw [← rel.length]
 exact h _ _ (I.tok _)
end
def NoSl (i:Expr):Prop:=∀ ov iv,subscripted i false ov iv=operate [ov,iv] (getItem ov iv)
theorem subD_of {prog:Program} {w:World} {A:Around} {E:Value→Shared→Prop} {s:Shared} {env:Env} {value slice:Expr} {pos:Pos} {T id:String} {Q:Value→Shared→Prop}
  (hl:typeLookup (.type T) "__getitem__"=pure (some (.builtin id))) (hs:NoSl slice)
  (h:wpAny (model prog w) A (eval value env) (fun o s₁=>wpAny (model prog w) A (eval slice env) (fun i s₂=>s₂.TypeIs o T∧wpAny (model prog w) A (getItem o i) Q E s₂) E s₁) E s) :
  wpAny (model prog w) A (eval (.Subscript value slice pos) env) Q E s:=by
 refine Subscript_ (wpAny_mono h (fun o s₁ h₁=>wpAny_mono h₁ (fun i s₂ h₂=>?_) fun _ _ x=>x) fun _ _ x=>x)
 obtain ⟨hT,h₂⟩:=h₂
 unfold subscriptTail
 refine wpAny_bind ?_
 rw [getitemInPython_of_ne hT.not_modules]
 refine wpAny_bind (wpAny_specialOf hT hl ?_)
 have fin:wpAny (model prog w) A (subscripted slice false o i) (fun r s₃=>wpAny (model prog w) A (letTemporaryGo value o r >>= fun _=>pure r) Q E s₃) E s₂:=by
  rw [hs o i]
  exact wpAny_operating (wpAny_mono h₂ (fun r s₃ h₃=>wpAny_bind (wpAny_letTemporaryGo (wpAny_pure h₃))) fun _ _ x=>x)
 first
  | exact wpAny_pure (wpAny_bind fin)
  | exact wpAny_bind (wpAny_pure (wpAny_bind fin))
  | exact wpAny_bind fin
theorem dict_typeIs {X:Cx} {pins:List (Addr × Obj)} {σ:St} {H:Hp} {s:Shared} {a:Addr} {y:V} {o:Option V} (I:Inv X pins σ H s) (g:DGet H a y o):s.TypeIs (.ref a) "dict":=by
 rcases g with ⟨kvs,k,e,_,_⟩ | ⟨kvs,k,b,e,_,_,_⟩
 ·obtain ⟨_,_,vs,_,dd⟩:=dk_rd I.hok e
  exact dd.typeIs
 ·obtain ⟨_,_,xs,_,dd⟩:=dt_rd I.hok e
  exact dd.typeIs
def tDGet (td ty:TE):TE:=fun σ H Q=>td σ H fun x H1=>ty σ H1 fun y H2=>∃ a v,x=.ref a∧DGet H2 a y (some v)∧Q v H2
def tDIn (ty td:TE):TE:=fun σ H Q=>ty σ H fun y H1=>td σ H1 fun x H2=>∃ a o,x=.ref a∧DGet H2 a y o∧Q (.bl o.isSome) H2
def sDPut (td ty tv:TE):TS:=fun D σ H=>tv σ H fun v H1=>td σ H1 fun x H2=>ty σ H2 fun y H3=>∃ a H4,x=.ref a∧DPut H3 a y v H4∧D.nx σ H4
section
variable {X:Cx} {o i e value:Expr} {pos pos' tpos:Pos} {td ty tv:TE}
theorem pe_dget (hu:X.A.units + 1 < cLine) (ho:PE X o td) (hi:PE X i ty) (hs:NoSl i):PE X (.Subscript o i pos) (tDGet td ty):=by
 intro pins s σ H Q I h
 refine subD_of PySem.F.slot_dict_getitem.lookup hs (thn (ho pins s σ H _ I h) fun u s1 ⟨x,H1,I1,rx,q1⟩=>thn (hi pins s1 σ H1 _ I1 q1) fun iv s2 ⟨y,H2,I2,ry,a,v,ex,g,q2⟩=>?_)
 subst ex
 obtain rfl:u=Value.ref a:=rx
 exact ⟨dict_typeIs I2 g,d_getItem hu I2 g ry fun w' s3 I3 rw'=>⟨v,H2,I3,rw',q2⟩⟩
theorem pc_din (hu:X.A.units + 1 < cLine) (hi:PE X i ty) (ho:PE X o td):PC X .In i o (tDIn ty td):=by
 intro pins s σ H Q I h
 refine thn (hi pins s σ H _ I h) fun iv s1 ⟨y,H1,I1,ry,q1⟩=>thn (ho pins s1 σ H1 _ I1 q1) fun u s2 ⟨x,H2,I2,rx,a,ov,ex,g,q2⟩=>?_
 subst ex
 obtain rfl:u=Value.ref a:=rx
 exact d_in hu I2 g ry fun s3 I3=>⟨.bl ov.isSome,H2,I3,rfl,q2⟩
theorem ps_dput (hu:X.A.units + 1 < cLine) (ho:PE X o td) (hi:PE X i ty) (hv:PE X value tv) (hs:swapsWith value (some (.Subscript o i pos')) pos.line X.env=pure false) :
  PS X (.Assign [.Subscript o i pos'] value pos) (sDPut td ty tv):=by
 intro pins s σ H D I h
 refine wpAny_Assign_Subscript (thn (hv pins s σ H _ I h) fun r s1 ⟨v,H1,I1,rv,q1⟩=>thn (ho pins s1 σ H1 _ I1 q1) fun u s2 ⟨x,H2,I2,rx,q2⟩=>thn (hi pins s2 σ H2 _ I2 q2) fun iv s3 ⟨y,H3,I3,ry,a,H4,ex,g,q3⟩=>?_) hs
 subst ex
 obtain rfl:u=Value.ref a:=rx
 exact d_setItem hu I3 g ry rv fun s4 I4=>⟨σ,H4,I4,q3⟩
end
theorem dk_empty {P:Program} {w:World} {H:Hp} (h:Heap) (hb:sysModules < h.objs.size):ObjOk P w H (h.push { cls:=.type "dict",data:=.dict #[] }) h.objs.size (.dK []) :=
 ⟨Nat.zero_le _,beq_eq_false_iff_ne.mpr (Ne.symm (Nat.ne_of_lt hb)),[],.nil,Heap.DictOf.new h⟩
def tDNewK:TE:=fun _ H Q=>∀ p,H p=none→Q (.ref p) (upd H p (.dK []))
section
variable {X:Cx} {pos:Pos}
theorem pe_dnewK:PE X (.Dict [] [] pos) tDNewK:=fun pins s σ H Q I h =>
 wpAny_Dict_empty ⟨.ref s.heap.objs.size,_,I.laid (a:=s.heap.objs.size) (o:=.dK []) (t':=s.toks) (fun _ _ q=>Heap.get?_push_of_some _ q) (Nat.le_refl _) (dk_empty s.heap I.big),rfl,h _ (I.hok.fresh (Nat.le_refl _))⟩
end
def tPairs:List (TE × TE)→St→Hp→(List (V × V)→Hp→Prop)→Prop
 | [],_,H,Q=>Q [] H
 | (tk,tv)::r,σ,H,Q=>tk σ H fun x H1=>tv σ H1 fun y H2=>tPairs r σ H2 fun ps H3=>Q ((x,y)::ps) H3
abbrev VV:List (V × V)→List (Value × Value)→Prop:=Paired fun p q=>RelV p.1 q.1∧RelV p.2 q.2
def PPs (X:Cx) (pos:Pos) (keys:List (Option Expr)) (values:List Expr) (trs:List (TE × TE)):Prop :=
 ∀ (pins:List (Addr × Obj)) (s:Shared) (σ:St) (H:Hp) (Q:List (V × V)→Hp→Prop),Inv X pins σ H s→tPairs trs σ H Q →
  wpAny (model X.prog X.w) X.A (evalPairs (pairTrees keys values X.env pos)) (fun vs s'=>∃ ps H',Inv X pins σ H' s'∧VV ps vs∧Q ps H') X.xe s
theorem pps_nil {X:Cx} {pos:Pos}:PPs X pos [] [] []:=fun pins s σ H Q I h=>pairTrees_nil_walk ⟨[],H,I,.nil,h⟩
theorem pps_cons {X:Cx} {pos:Pos} {k v:Expr} {ks:List (Option Expr)} {vs:List Expr} {tk tv:TE} {trs:List (TE × TE)} (hk:PE X k tk) (hv:PE X v tv) (hr:PPs X pos ks vs trs) :
  PPs X pos (some k::ks) (v::vs) ((tk,tv)::trs):=fun pins s σ H Q I h =>
 pairTrees_cons_walk (thn (hk pins s σ H _ I h) fun u s1 ⟨x,H1,I1,rx,q1⟩=>thn (hv pins s1 σ H1 _ I1 q1) fun w2 s2 ⟨y,H2,I2,ry,q2⟩ =>
  thn (hr pins s2 σ H2 _ I2 q2) fun ws s3 ⟨ps,H3,I3,rel,q3⟩=>⟨(x,y)::ps,H3,I3,.cons ⟨rx,ry⟩ rel,q3⟩)
def mergeK (kvs more:List (Key × V)):List (Key × V):=more.foldl (fun acc kv=>putK acc kv.1 kv.2) kvs
theorem KV.merge:∀ {more:List (Key × V)} {rs:List (Key × Value)} {kvs:List (Key × V)} {vs:List (Key × Value)},KV more rs→KV kvs vs→KV (mergeK kvs more) (merged vs rs):=by
 intro more rs kvs vs r
 unfold KV at r
 induction r generalizing kvs vs with
 | nil=>intro q;exact q
 | @cons p q ps qs h t ih =>
  intro r0
  have e:KV (putK kvs p.1 p.2) (stored vs q.1 q.2):=by
   have:=r0.put p.1 h.2
   rw [← h.1];exact this
  exact ih e
theorem length_mergeK:∀ (more kvs:List (Key × V)),(mergeK kvs more).length≤kvs.length + more.length
 | [],kvs=>by show kvs.length≤kvs.length + 0;omega
 | p::r,kvs=>by
  have h1:=length_mergeK r (putK kvs p.1 p.2)
  have h2:=length_putK kvs p.1 p.2
  show (mergeK (putK kvs p.1 p.2) r).length≤_
  rw [List.length_cons];omega
theorem carries_of {P:Program} {w:World}:∀ {kvs:List (Key × V)} {ws:List (Value × Value)},VV (kvs.map fun kv=>(kV kv.1,kv.2)) ws→∃ rs,Carries (mixKind P w) ws rs∧KV kvs rs
 | [],_,r=>by rw [List.map_nil] at r;cases r;exact ⟨[],True.intro,.nil⟩
 | p::kvs,_,r=>by
  rw [List.map_cons] at r
  cases r with
  | @cons a b as bs h t =>
   obtain ⟨rs,c,q⟩:=carries_of (P:=P) (w:=w) t
   obtain ⟨b1,b2⟩:=b
   exact ⟨(p.1,b2)::rs,⟨kV_is h.1,rfl,c⟩,.cons ⟨rfl,h.2⟩ q⟩
def tDisp (trs:List (TE × TE)):TE:=fun σ H Q=>∀ p,H p=none→tPairs trs σ (upd H p (.dK [])) fun ps H2=>H2 p=some (.dK [])∧∃ kvs:List (Key × V),ps=kvs.map (fun kv=>(kV kv.1,kv.2))∧kvs.length≤15∧Q (.ref p) (upd H2 p (.dK (mergeK [] kvs)))
theorem pe_disp {X:Cx} {pos:Pos} {keys:List (Option Expr)} {values:List Expr} {trs:List (TE × TE)} (h:PPs X pos keys values trs) (hall:keys.all (·.isSome)=true) (hl:keys.length=values.length) (h0:keys≠[])
  (h15:keys.length≤15):PE X (.Dict keys values pos) (tDisp trs):=by
 intro pins s σ H Q I q
 have hn:=I.hok.fresh (Nat.le_refl s.heap.objs.size)
 have I1:=I.laid (a:=s.heap.objs.size) (o:=.dK []) (h':=s.heap.push { cls:=.type "dict",data:=.dict #[] }) (t':=s.toks) (fun _ _ q=>Heap.get?_push_of_some _ q) (Nat.le_refl _) (dk_empty s.heap I.big)
 refine wpAny_Dict_walk (knd:=mixKind X.prog X.w) hall hl h0 h15 (thn (h pins _ σ _ _ I1 (q _ hn)) fun ws s2 ⟨ps,H2,I2,rel,e,kvs,ep,lk,q2⟩=>?_)
 subst ep
 obtain ⟨rs,c,rk⟩:=carries_of (P:=X.prog) (w:=X.w) rel
 obtain ⟨z,hd,vs0,r0,dd⟩:=dk_of I2.hok e
 cases r0
 refine ⟨rs,c,dd,fun h' dd' hs=>⟨.ref s.heap.objs.size,_,?_,rfl,q2⟩⟩
 have hz:(mergeK [] kvs).length≤sizeLine:=by
  have h1:=length_mergeK kvs []
  rw [List.length_nil] at h1
  rw [sizeLine_eq];omega
 have he:∃ q,h'.get? s.heap.objs.size=some q:=let ⟨q,_,_,hq,_⟩:=dd';⟨q,hq⟩
 exact d_write I2 (by rw [e];exact True.intro) hs he (dk_new hz hd (rk.merge .nil) dd')
structure M2 (X:Cx) (o:Expr) (m:Str) (apos:Pos) (e f:Expr) (cpos:Pos):Prop where
 base:attributeBase o m X.env (eval o X.env)=eval o X.env
 few:((backTo cpos (starEach [e,f] X.env)).all (fun x=>!x.1) && (backToKw cpos (keywordEach [] X.env)).all (fun x=>x.1.isSome)
  && decide (([e,f]:List Expr).length + ([]:List Keyword).length + (if ([]:List Keyword).isEmpty then 0 else 1) < 30))=true
 line:(apos.endLine == cpos.line)=true
 trees:backTo cpos (starEach [e,f] X.env)=[(false,eval e X.env),(false,eval f X.env)]
def IsD (H:Hp) (a:Addr):Prop:=(∃ kvs,Rd H a (.dK kvs))∨∃ kvs,Rd H a (.dT kvs)
theorem isD_at {X:Cx} {pins:List (Addr × Obj)} {σ:St} {H:Hp} {s:Shared} {a:Addr} (I:Inv X pins σ H s) (d:IsD H a) :
  s.TypeIs (.ref a) "dict"∧(∀ b,Value.ref a=.ref b→∃ ob,s.heap.get? b=some ob∧ob.dict=none)∧(a == sysModules)=false:=by
 rcases d with ⟨kvs,e⟩ | ⟨kvs,e⟩
 ·obtain ⟨_,hd,vs,_,dd⟩:=dk_rd I.hok e
  refine ⟨dd.typeIs,fun b q=>?_,hd⟩
  cases q
  obtain ⟨ob,_,_,h1,h2,_⟩:=dd
  exact ⟨ob,h1,h2.2.1⟩
 ·obtain ⟨_,hd,xs,_,dd⟩:=dt_rd I.hok e
  refine ⟨dd.typeIs,fun b q=>?_,hd⟩
  cases q
  obtain ⟨ob,_,_,h1,h2,_⟩:=dd
  exact ⟨ob,h1,h2.2.1⟩
section
variable {X:Cx} {pins:List (Addr × Obj)} {σ:St} {H:Hp} {s:Shared} {a:Addr} {y d:V} {u r:Value} {o:Option V} {A:Around} {E:Value→Shared→Prop}
theorem d_get2 {Q:Value→Shared→Prop} (hu:A.units + 1 < cLine) (I:Inv X pins σ H s) (g:DGet H a y o) (ry:RelV y u) (rd:RelV d r) (h:∀ w' s',Inv X pins σ H s'→RelV (o.getD d) w'→Q w' s') :
  wpAny (model X.prog X.w) A (call (.builtin "dict.get") [.ref a,u,r]) Q E s:=by
 rcases g with ⟨kvs,k,e,ey,l⟩ | ⟨kvs,k,b,e,ey,eb,l⟩
 ·subst ey
  obtain ⟨z,hd,vs,rel,dd⟩:=dk_rd I.hok e
  refine call_meetsIn PySem.F.slot_dict_get dd.typeIs PySem.F.entry_dict_get (PySem.F.args_dict_get_3 _ _ _) (meets_dict_get_default (mixKind X.prog X.w) a (kV_is ry) hd r) ⟨_,dd.mapOf,h _ _ (I.tok _) ?_⟩
  rw [l]
  exact (rel.val k).getD rd
 ·subst ey
  cases (show u=Value.ref b from ry)
  obtain ⟨z,hd,xs,rel,dd⟩:=dt_rd I.hok e
  refine call_meetsIn PySem.F.slot_dict_get dd.typeIs PySem.F.entry_dict_get (PySem.F.args_dict_get_3 _ _ _) (meetsH_dict_get_default (tupleKind (mixKind X.prog X.w)) a b hd r) ⟨tupleKind_room_in1 hu,k,xs,key_of I.hok eb,dd,h _ _ (I.tok _) ?_⟩
  rw [l]
  exact (rel.val k).getD rd
end
def tDGet2 (td ty tx:TE):TE:=fun σ H Q=>td σ H fun x H1=>∃ a,x=.ref a∧IsD H1 a∧ty σ H1 fun y H2=>tx σ H2 fun z H3=>∃ o,DGet H3 a y o∧Q (o.getD z) H3
section
variable {X:Cx} {o e f:Expr} {apos cpos:Pos} {td ty tx:TE}
theorem pe_dget2 (hu:X.A.units + 1 < cLine) (ho:PE X o td) (he:PE X e ty) (hf:PE X f tx) (m:M2 X o "get" apos e f cpos):PE X (.Call (.Attribute o "get" apos) [e,f] [] cpos) (tDGet2 td ty tx):=by
 intro pins s σ H Q I h
 refine wpAny_Call_method m.base m.few m.line PySem.F.plainAttrs_dict PySem.F.slot_dict_get PySem.F.type_dict_get (thn (ho pins s σ H _ I h) fun u s1 ⟨x,H1,I1,rx,a,ex,d,q1⟩=>?_)
 subst ex
 obtain rfl:u=Value.ref a:=rx
 obtain ⟨t1,t2,_⟩:=isD_at I1 d
 refine ⟨t1,t2,?_⟩
 rw [m.trees]
 refine Calls.callWith_builtin rfl (Calls.evalArgs_plain (Calls.spliced_cons (thn (he pins s1 σ H1 _ I1 q1) fun iv s2 ⟨y,H2,I2,ry,q2⟩ =>
  Calls.spliced_cons (thn (hf pins s2 σ H2 _ I2 q2) fun fv s3 ⟨z,H3,I3,rz,ov,g,q3⟩=>Calls.spliced_nil ?_))))
 exact d_get2 hu I3 g ry rz fun w' s4 I4 rw'=>⟨_,H3,I4,rw',q3⟩
end
section
variable {X:Cx} {pins:List (Addr × Obj)} {σ:St} {H:Hp} {s:Shared} {a:Addr} {kvs:List (Key × V)} {A:Around} {E:Value→Shared→Prop}
theorem d_copyOf {Q:Value→Shared→Prop} (I:Inv X pins σ H s) (e:Rd H a (.dK kvs)) (h:∀ p s',H p=none→Inv X pins σ (upd H p (.dK kvs)) s'→Q (.ref p) s'):wpAny (model X.prog X.w) A (call (.type "dict") [.ref a]) Q E s:=by
 obtain ⟨z,hd,vs,rel,dd⟩:=dk_rd I.hok e
 refine kt_call_dict hd dd (by rw [← rel.length];exact z) fun h' dd' hs=>?_
 refine h _ _ (I.hok.fresh (Nat.le_refl _)) (I.laid (a:=s.heap.objs.size) (o:=.dK kvs) (t':=s.toks) (fun b q hq=>?_) (Nat.le_refl _) (dk_new z (beq_eq_false_iff_ne.mpr (Ne.symm (Nat.ne_of_lt I.big))) rel dd'))
 exact (hs.2 b (Nat.ne_of_lt (Heap.lt_size hq))).trans (Heap.get?_push_of_some _ hq)
end
section
variable {X:Cx} {pins:List (Addr × Obj)} {σ:St} {H:Hp} {s:Shared} {a:Addr} {y:V} {u:Value} {A:Around} {E:Value→Shared→Prop}
end
end L2
namespace L2
open PySem PySem.Spec PyProof.Rows
section
variable {X:Cx}
end
end L2
set_option linter.all false
set_option Elab.async false
namespace PV
open PySem (Str)
def dget (kvs:List (Int × Int)) (k:Int):Option Int:=(kvs.find? fun p=>decide (p.1=k)).map (·.2)
def dput (kvs:List (Int × Int)) (k v:Int):List (Int × Int) :=
 if (kvs.any fun p=>decide (p.1=k))=true then kvs.map (fun p=>if p.1=k then (p.1,v) else p) else kvs++[(k,v)]
def fGetD:D→D→Option D
 | .dct kvs,.int k=>match dget kvs k with
  | some v=>some (.int v)
  | none=>none
 | _,_=>none
def eGetD (a b:Ex):Ex:=eF2 fGetD a b
def eGet2 (i:Nat) (b c:Ex):Ex:=fun env=>match env[i]?,b env,c env with
 | some (.dc kvs),some (.int k),some (.int x)=>some (.int ((dget kvs k).getD x))
 | _,_,_=>none
def tInD (a b:Ex):Tx:=fun env=>match a env,b env with
 | some (.int k),some (.dct kvs)=>some (dget kvs k).isSome
 | _,_=>none
def eDisp (a b:Ex):Ex:=fun env=>match a env,b env with
 | some (.int k),some (.int v)=>some (.dct [(k,v)])
 | _,_=>none
def fLenD:D→Option D
 | .dct kvs=>some (.int kvs.length)
 | _=>none
def iKeys (a:Ex):Lx:=fun env=>match a env with
 | some (.dct kvs)=>some (kvs.map fun p=>.int p.1)
 | _=>none
def sDict (i:Nat) (e:Ex):St:=fun env=>match e env with
 | some (.dct kvs)=>some (.nx,env.set i (.dc kvs))
 | _=>none
def sDNew (i:Nat):St:=fun env=>some (.nx,env.set i (.dc []))
def sDPut (i:Nat) (a e:Ex):St:=fun env=>match env[i]?,e env,a env with
 | some (.dc kvs),some (.int v),some (.int k)=>if kvs.length < lim then some (.nx,env.set i (.dc (dput kvs k v))) else none
 | _,_,_=>none
def fLenSet:D→Option D
 | .lst xs=>match ints? xs with
  | some ns=>if ns.length≤3000 then some (.int (seen ns).length) else none
  | none=>none
 | _=>none
end PV
namespace PV
end PV
namespace PV
def enumD:Nat→List D→List D
 | _,[]=>[]
 | k,d::ds=>.tup [.int k,d]::enumD (k + 1) ds
def iEnum (a:Ex):Lx:=fun env=>match a env with
 | some (.lst xs)=>some (enumD 0 xs)
 | _=>none
end PV
set_option linter.all false
set_option Elab.async false
set_option maxRecDepth 100000
set_option maxHeartbeats 4000000
namespace PV
open PySem PySem.Spec PyProof.Rows
open L2 (V Hp HO Vals SqL SqT Same upd Cx PE PT PW PA PS PSs TE TT TA TS Inv RelV upd_same upd_ne ne_of_none Un)
theorem val_kv (kvs:List (Int × Int)) (k:Int):L2.valV (kvV kvs) (Sum.inl k:L2.Key)=(dget kvs k).map V.int:=by
 unfold L2.valV kvV dget
 rw [List.find?_map]
 have e:((fun kv:L2.Key × V=>decide (kv.1=(Sum.inl k:L2.Key))) ∘ fun p:Int × Int=>((Sum.inl p.1:L2.Key),V.int p.2))=fun p:Int × Int=>decide (p.1=k):=by
  funext p
  simp
 rw [e]
 cases kvs.find? fun p=>decide (p.1=k) <;> rfl
theorem put_kv (kvs:List (Int × Int)) (k v:Int):L2.putK (kvV kvs) (Sum.inl k:L2.Key) (V.int v)=kvV (dput kvs k v):=by
 unfold L2.putK dput
 have e:((kvV kvs).any fun kv=>decide (kv.1=(Sum.inl k:L2.Key)))=kvs.any fun p=>decide (p.1=k):=by
  unfold kvV
  rw [List.any_map]
  congr 1
  funext p
  simp
 rw [e]
 split
 ·unfold kvV
  rw [List.map_map,List.map_map]
  refine List.map_congr_left fun p _=>?_
  simp only [Function.comp]
  by_cases h:p.1=k
  ·rw [if_pos h,if_pos (by rw [h])]
  ·rw [if_neg h,if_neg (fun e=>h (Sum.inl.inj e))]
 ·unfold kvV
  rw [List.map_append]
  rfl
theorem rep_dct {K:PySem.W.Frag} {H:Hp} {kvs:List (Int × Int)} {v:V} (h:Rep K H (.dct kvs) v):∃ a o,v=.ref a∧H a=some (.frz o (.dK (kvV kvs))):=by simpa [Rep] using h
theorem dget_frz {H:Hp} {a:Addr} {o:Obj} {kvs:List (L2.Key × V)} {k:L2.Key} (e:H a=some (.frz o (.dK kvs))):L2.DGet H a (L2.kV k) (L2.valV kvs k):=.inl ⟨kvs,k,.inr ⟨o,e⟩,rfl,rfl⟩
section
variable {X:Cx} {m m1 m2 m3:Md} {r:RetP} {a b c e:Expr} {f g h:Ex} {pos p p2 pos':Pos}
theorem pd_getD (hu:X.A.units + 64 < cLine) (ha:PD X m1 a f) (hb:PD X m2 b g) (hs:L2.NoSl b:=by exact fun _ _=>rfl):PD X m (.Subscript a b pos) (eGetD f g) :=
 PD.mk <| PE.of (L2.pe_dget (by omega) ha.r.h hb.r.h hs) fun σ H Q ⟨BF,BH,F,env,L,d,S,e,q⟩=>by
  unfold eGetD eF2 at e
  split at e
  ·rename_i x y h1 h2
   unfold fGetD at e
   split at e
   ·split at e
    ·rename_i kvs k _ v hv
     cases e
     refine two S h1 h2 fun v' w F' H' z r1 r2=>?_
     obtain ⟨p,o,rfl,hp⟩:=rep_dct r1
     refine ⟨p,.int v,rfl,?_,q _ F' H' z (by simp [Rep])⟩
     rw [rep_int r2]
     have:=dget_frz (k:=(Sum.inl k:L2.Key)) hp
     rw [val_kv,hv] at this
     exact this
    ·cases e
   ·cases e
  ·cases e
theorem pt_inD (hu:X.A.units + 64 < cLine) (ha:PD X m1 a f) (hb:PD X m2 b g) (hm:behindInMarks .In b=false:=by with_unfolding_all rfl):PTd X (.Compare a [.In] [b] pos) (tInD f g) :=
 PT.of (L2.pt_cmp (L2.pc_din (by omega) ha.r.h hb.r.h) hm) fun σ H Q ⟨BF,BH,F,env,L,d,S,e,q⟩=>by
  unfold tInD at e
  split at e
  ·rename_i k kvs h1 h2
   cases e
   refine two S h1 h2 fun v' w F' H' z r1 r2=>?_
   obtain ⟨p,o,rfl,hp⟩:=rep_dct r2
   have e2:((dget kvs k).map V.int).isSome=(dget kvs k).isSome:=by cases dget kvs k <;> rfl
   refine ⟨p,(dget kvs k).map V.int,rfl,?_,_,rfl,by rw [e2];exact q F' H' z⟩
   rw [rep_int r1]
   have:=dget_frz (k:=(Sum.inl k:L2.Key)) hp
   rw [val_kv] at this
   exact this
  ·cases e
theorem pd_get2 (hu:X.A.units + 64 < cLine) (i:Nat) {x:Str} {p1 p3 p4:Pos} (hb:PD X m2 b g) (hc:PD X m3 c h) (hN:X.N[i]?=some x:=by kernel_rfl) (hv:visB X.env.scope x=true:=by kernel_rfl) (hd:(x == ("__debug__":Str))=false:=by kernel_rfl)
  (hcd:(x == ("__classdict__":Str))=false:=by kernel_rfl)
  (hbase:attributeBase (.Name x p1) "get" X.env (eval (.Name x p1) X.env)=eval (.Name x p1) X.env:=by rfl) (hline:(p3.endLine == p4.line)=true:=by rfl)
  (hfew:((backTo p4 (starEach [b,c] X.env)).all (fun x=>!x.1) && (backToKw p4 (keywordEach [] X.env)).all (fun x=>x.1.isSome)
  && decide (([b,c]:List Expr).length + ([]:List Keyword).length + (if ([]:List Keyword).isEmpty then 0 else 1) < 30))=true:=by rfl)
  (htr:backTo p4 (starEach [b,c] X.env)=[(false,eval b X.env),(false,eval c X.env)]:=by rfl):PD X m (.Call (.Attribute (.Name x p1) "get" p3) [b,c] [] p4) (eGet2 i g h) :=
 PD.mk <| PE.of (L2.pe_dget2 (by omega) (L2.pe_var hN (visB_ok hv) hd hcd) hb.r.h hc.r.h ⟨hbase,hfew,hline,htr⟩) fun σ H Q ⟨BF,BH,F,env,L,d,S,e,q⟩=>by
  unfold eGet2 at e
  split at e
  ·rename_i kvs k x h1 h2 h3
   cases e
   obtain ⟨ov,hσ,hso⟩:=S.sl i _ h1
   obtain ⟨p,rfl,hl,hp⟩:=hso
   refine ⟨_,hσ,p,rfl,.inl ⟨_,.inl hp⟩,BF,BH,F,env,L,_,S,h2,fun v2 F2 H2 z2 r2=>⟨BF,BH,F2,env,L,_,S.ext z2,h3,fun v3 F3 H3 z3 r3=>?_⟩⟩
   have hp3:H3 p=some (.dK (kvV kvs)):=z3.hh _ _ (z2.hh _ _ hp)
   have g1:=L2.DGet.k (k:=(Sum.inl k:L2.Key)) hp3
   rw [val_kv] at g1
   refine ⟨_,by rw [rep_int r2];exact g1,?_⟩
   rw [rep_int r3]
   have e2:((dget kvs k).map V.int).getD (.int x)=.int ((dget kvs k).getD x):=by cases dget kvs k <;> rfl
   rw [e2]
   exact q _ F3 H3 (z2.trans z3) (by simp [Rep])
  ·cases e
theorem call_lenF:L2.CallR X (.builtin "len") (fun xs H Q=>∃ a o kvs,xs=[V.ref a]∧H a=some (.frz o (.dK kvs))∧Q (.int kvs.length) H):=by
 intro pins s σ H xs us Q I r h
 obtain ⟨a,o,kvs,rfl,ha,q⟩:=h
 obtain ⟨u,rfl,ru⟩:=r.one
 cases ru
 exact L2.d_len I (.inr ⟨o,ha⟩) fun t s' I'=>⟨.int kvs.length,H,I',⟨t,rfl⟩,q⟩
theorem pd_lenD {p:Pos} (T:Bt X.mg) (ha:PD X m1 a f) (hg:X.env.kindOf "len"=some .globalImplicit:=by kernel_rfl) (hs:nst a=true:=by rfl):PD X m (.Call (.Name "len" p) [a] [] pos) (eF1 fLenD f) :=
 pd_B1 call_lenF T.len PySem.boot_len (fun d y H' v Q e r k=>by
  unfold fLenD at e
  split at e
  ·cases e
   obtain ⟨p,o,rfl,hp⟩:=rep_dct r
   refine ⟨⟨p,o,_,rfl,hp,?_⟩,rfl⟩
   have:(kvV ‹_›).length=List.length ‹_›:=by unfold kvV;exact List.length_map ..
   rw [this]
   exact k _ (by simp [Rep])
  ·cases e) ha hg (by decide) (by decide) hs
def tDN (K:PySem.W.Frag) (f:Ex):TE:=fun σ H Q=>∃ BF BH F env L kvs,SOk K BF BH F H σ env L∧f env=some (.dct kvs)∧∀ a F' H',Ext F H F' H'→H a=none→H' a=some (.dK (kvV kvs))→F' a=none→Q (.ref a) H'
theorem pe_frzD (h:PE X e (tDN X.K f)) (hf:∀ env d,f env=some d→∃ kvs,d=.dct kvs):PD X .k e f:=PD.mk fun pins s σ H Q I ⟨BF,BH,F,env,L,d,S,e,q⟩=>by
 obtain ⟨kvs,rfl⟩:=hf env d e
 refine L2.thn (h pins s σ H (fun v H'=>∃ a F',v=.ref a∧Ext F H F' H'∧H a=none∧H' a=some (.dK (kvV kvs))∧F' a=none) I ⟨BF,BH,F,env,L,kvs,S,e,fun a F' H' z h0 h1 h2=>⟨a,F',rfl,z,h0,h1,h2⟩⟩) fun u s' ⟨v,H',I',rv,a,F',e1,z,h0,h1,h2⟩=>?_
 subst e1
 obtain ⟨o,I2⟩:=frz_dict I' h1
 refine ⟨.ref a,_,I2,rv,q _ (upd F' a (.frz o (.dK (kvV kvs)))) _ ⟨fun b o hb=>?_,fun b o hb=>?_,fun b o hb=>?_,fun b o hb=>?_⟩ ?_⟩
 ·have hne:b≠a:=ne_of_none hb h0
  rw [upd_ne hne];exact z.hh _ _ hb
 ·have hne:b≠a:=ne_of_none (S.fh _ _ hb) h0
  rw [upd_ne hne];exact z.ff _ _ hb
 ·by_cases hbp:b=a
  ·subst hbp;exact .inr h0
  ·rw [upd_ne hbp] at hb;exact z.dm _ _ hb
 ·by_cases hbp:b=a
  ·subst hbp;rw [upd_same] at hb ⊢;exact hb
  ·rw [upd_ne hbp] at hb ⊢;exact z.fh _ _ hb
 ·show Rep X.K (upd F' a (.frz o (.dK (kvV kvs)))) (.dct kvs) (.ref a)
  simp only [Rep]
  exact ⟨a,o,rfl,upd_same⟩
theorem pd_disp (ha:PD X m1 a f) (hb:PD X m2 b g):PD X .k (.Dict [some a] [b] pos) (eDisp f g) :=
 pe_frzD (PE.of (L2.pe_disp (L2.pps_cons ha.r.h hb.r.h L2.pps_nil) rfl rfl (by simp) (by simp)) fun σ H Q ⟨BF,BH,F,env,L,kvs,S,e,q⟩=>by
  unfold eDisp at e
  split at e
  ·rename_i k v h1 h2
   cases e
   intro p hp
   have z0:=Ext.own (o:=HO.dK []) S.fh hp
   refine two (S.ext z0) h1 h2 fun v' w F' H' z r1 r2=>?_
   have hp':H' p=some (.dK []):=z.hh _ _ upd_same
   refine ⟨hp',[(Sum.inl k,.int v)],by rw [rep_int r1,rep_int r2];rfl,by simp,?_⟩
   have zz:=z0.trans z
   have fp:F' p=none:=by
    cases hq:F' p with
    | none=>rfl
    | some o =>
     rcases z.dm p o hq with h' | h'
     ·rw [S.fh.free hp] at h';cases h'
     ·rw [upd_same] at h';cases h'
   refine q p F' _ ⟨fun b o hb=>?_,zz.ff,zz.dm,fun b o hb=>?_⟩ hp upd_same fp
   ·have hne:b≠p:=ne_of_none hb hp
    rw [upd_ne hne];exact zz.hh _ _ hb
   ·have hne:b≠p:=ne_of_none hb fp
    rw [upd_ne hne];exact zz.fh _ _ hb
  ·cases e) fun env d h=>by
  unfold eDisp at h
  split at h
  ·cases h;exact ⟨_,rfl⟩
  ·cases h
theorem call_dictOf:L2.CallR X (.type "dict") (fun xs H Q=>∃ a o kvs,xs=[.ref a]∧H a=some (.frz o (.dK kvs))∧∀ p,H p=none→Q (.ref p) (upd H p (.dK kvs))):=by
 intro pins s σ H xs us Q I r h
 obtain ⟨a,o,kvs,rfl,ha,q⟩:=h
 obtain ⟨u,rfl,ru⟩:=r.one
 cases ru
 exact L2.d_copyOf I (.inr ⟨o,ha⟩) fun p s' hp I'=>⟨.ref p,_,I',rfl,q p hp⟩
theorem dc_set {K:PySem.W.Frag} {BF BH F F' H H':Hp} {σ:L2.St} {env:Env} {L:Nat→List Addr} (S:SOk K BF BH F H σ env L) (z:Ext F H F' H') (i:Nat) {p:Addr} {kvs:List (Int × Int)} (h0:H p=none) (h1:H' p=some (.dK (kvV kvs))) (h2:F' p=none) :
  SOk K BF BH F' H' (σ.set i (some (.ref p))) (env.set i (.dc kvs)) (putL L i [p]) :=
 (S.ext z).set i ⟨p,rfl,rfl,h1⟩ (fun a h=>by
  rw [List.mem_singleton] at h;subst h
  exact ⟨h2,S.s0.free h0,by rw [h1];simp⟩) (fun a h j hj hm=>by
  rw [List.mem_singleton] at h;subst h
  exact (S.ow j a hm).2.2 h0)
theorem ps_dict (nd:X.N.Nodup) (i:Nat) {x:Str} {p3:Pos} (T:Bt X.mg) (ha:PD X m1 a f) (hg:X.env.kindOf "dict"=some .globalImplicit:=by kernel_rfl) (hst:nst a=true:=by rfl) (hi:X.N[i]?=some x:=by kernel_rfl) (hx:locB X.env.scope x=true:=by kernel_rfl) (hs:swapsWith (.Call (.Name "dict" p) [a] [] p3) (some (.Name x pos')) pos.line X.env=pure false:=by rfl)
  (hf:fnB X x=true:=by kernel_rfl):PS1 X r (.Assign [.Name x pos'] (.Call (.Name "dict" p) [a] [] p3) pos) (sDict i f) :=
 PS1.mk <| PS.of (L2.ps_set nd hi (locB_ok hx) (L2.pe_callTy call_dictOf hg T.dict (by decide +kernel) (L2.pa_cons ha.r.h L2.pa_nil (star_one hst)) (by decide) (by decide) (star_cons hst) rfl) hs (fnB_ok hf)) fun D0 σ H ⟨BF,BH,F,env,L,o,env',S,e,k⟩=>by
  unfold sDict at e
  split at e
  ·rename_i kvs h1
   cases e
   refine ⟨BF,BH,F,env,L,_,S,h1,fun v F' H' z rv=>?_⟩
   obtain ⟨p,o,rfl,hp⟩:=rep_dct rv
   refine ⟨p,o,_,rfl,hp,fun q hq=>?_⟩
   exact k F' _ _ _ (dc_set S (z.trans (Ext.own z.fh hq)) i (z.hh.free hq) upd_same (z.fh.free hq)) z.ff
  ·cases e
theorem ps_dnew (nd:X.N.Nodup) (i:Nat) {x:Str} {p3:Pos} (hi:X.N[i]?=some x:=by kernel_rfl) (hx:locB X.env.scope x=true:=by kernel_rfl) (hs:swapsWith (.Dict [] [] p3) (some (.Name x pos')) pos.line X.env=pure false:=by rfl)
  (hf:fnB X x=true:=by kernel_rfl):PS1 X r (.Assign [.Name x pos'] (.Dict [] [] p3) pos) (sDNew i) :=
 PS1.mk <| PS.of (L2.ps_set nd hi (locB_ok hx) L2.pe_dnewK hs (fnB_ok hf)) fun D0 σ H ⟨BF,BH,F,env,L,o,env',S,e,k⟩=>by
  cases e
  exact fun q hq=>k F _ _ _ (dc_set S (Ext.own S.fh hq) i hq upd_same (S.fh.free hq)) (.refl _)
theorem ps_dput (hu:X.A.units + 64 < cLine) (i:Nat) {x:Str} {p1:Pos} (hb:PD X m1 b g) (ha:PD X m2 e f) (hN:X.N[i]?=some x:=by kernel_rfl) (hv:visB X.env.scope x=true:=by kernel_rfl) (hd:(x == ("__debug__":Str))=false:=by kernel_rfl)
  (hcd:(x == ("__classdict__":Str))=false:=by kernel_rfl) (hs:swapsWith e (some (.Subscript (.Name x p1) b pos')) pos.line X.env=pure false:=by rfl):PS1 X r (.Assign [.Subscript (.Name x p1) b pos'] e pos) (sDPut i g f) :=
 PS1.mk <| PS.of (L2.ps_dput (by omega) (L2.pe_var hN (visB_ok hv) hd hcd) hb.r.h ha.r.h hs) fun D0 σ H ⟨BF,BH,F,env,L,o,env',S,e,k⟩=>by
  unfold sDPut at e
  split at e
  ·rename_i kvs v kk he h1 h2
   split at e
   ·rename_i hlen
    cases e
    obtain ⟨ov,hσ,hso⟩:=S.sl i _ he
    obtain ⟨p,rfl,hl,hp⟩:=hso
    refine ⟨BF,BH,F,env,L,_,S,h1,fun v1 F1 H1 z1 r1=>⟨_,hσ,BF,BH,F1,env,L,_,S.ext z1,h2,fun v2 F2 H2 z2 r2=>?_⟩⟩
    have z:=z1.trans z2
    have hp2:H2 p=some (.dK (kvV kvs)):=z.hh _ _ hp
    refine ⟨p,_,rfl,by rw [rep_int r1,rep_int r2];exact L2.DPut.k (k:=(Sum.inl kk:L2.Key)) hp2 (by unfold kvV;rw [List.length_map];exact Nat.lt_of_lt_of_le hlen lim_le),?_⟩
    rw [put_kv]
    refine k F2 _ σ L ((S.ext z).own (i:=i) (a:=p) (by rw [hl];simp) _ fun s ov e1 e2 e3=>?_) z.ff
    rw [hσ] at e2;cases e2
    exact ⟨p,rfl,hl,upd_same⟩
   ·cases e
  ·cases e
end
end PV
set_option linter.all false
set_option Elab.async false
set_option maxRecDepth 100000
set_option maxHeartbeats 4000000
namespace PV
open PySem PySem.Spec PyProof.Rows
open L2 (V Hp HO Vals SqL SqT Same upd Cx PE PT PW PA PS PSs TE TT TA TS Inv RelV upd_same upd_ne ne_of_none Un)
def Itk (a:Addr) (o:Obj) (kvs:List (L2.Key × V)):L2.It :=
 ⟨fun i H=>H a=some (.frz o (.dK kvs))∧i < kvs.length,fun i H x H'=>H'=H∧∃ p,kvs[i]?=some p∧x=L2.kV p.1,fun i H=>H a=some (.frz o (.dK kvs))∧kvs.length≤i⟩
theorem key_rel {P:Program} {w:World} {k:L2.Key} {u:Value} (h:(L2.mixKind P w).is k u=true):RelV (L2.kV k) u:=by
 rcases L2.keyIs_shape (k:=k) (v:=u) h with ⟨i,t,rfl,rfl⟩ | ⟨x,t,rfl,rfl⟩
 ·exact ⟨t,rfl⟩
 ·exact ⟨t,rfl⟩
theorem frz_at {X:Cx} {pins:List (Addr × Obj)} {σ:L2.St} {H:Hp} {s:Shared} (I:Inv X pins σ H s) {a:Addr} {o:Obj} {kvs:List (L2.Key × V)} (h:H a=some (.frz o (.dK kvs))) :
  ∃ vs es ep,L2.KV kvs vs∧o.data=.dict es ep∧s.heap.DictAt (L2.mixKind X.prog X.w) a vs ep∧(a == sysModules)=false:=by
 obtain ⟨h0,z,y,vs,r,ob,es,ep,e,c1,c2,c3⟩:=I.hok a _ h
 rw [h0] at e;cases e
 exact ⟨vs,es,ep,r,c2,⟨o,es,h0,c1,c2,c3⟩,y⟩
theorem turn_keys {P:Program} {w:World} {K:PySem.W.Frag} {tg:Expr} (a it:Addr) (o:Obj) (kvs:List (L2.Key × V)) (ep:Nat) (hep:∃ es,o.data=.dict es ep):L2.Turn P w K tg (Itk a o kvs) [it] it (fun i h=>h.IsKeyIter it a i kvs.length ep) where
 mem:=by simp
 obj:=fun i h st b hb=>by
  have e:b=it:=by simpa using hb
  subst e
  obtain ⟨o,e,c,d⟩:=st
  exact ⟨o,e,fun v z=>by rw [d] at z;cases z⟩
 keep:=fun i h h' st k=>st.at fun o e=>k it (by simp) o e
 item:=by
  intro X hP hw hK hc i pins s σ H E I hf st hg
  subst hP hw hK
  obtain ⟨h1,h2⟩:=hg
  obtain ⟨vs,es,ep',r,hd,hm,_⟩:=frz_at I h1
  have eep:ep'=ep:=by
   obtain ⟨es',hep⟩:=hep
   rw [hd] at hep
   cases hep;rfl
  subst eep
  obtain ⟨f0,f1,f2,f3,f4,f5⟩:=hf it (by simp)
  have hlen:kvs.length=vs.length:=r.length
  have hk:=r.keys
  have hi:i < vs.length:=by omega
  have hkey:vs[i].1=kvs[i].1:=by
   have:=congrArg (fun l=>l[i]?) hk
   simpa [h2,hi] using this.symm
  rw [hlen] at st
  refine wpAny_pyNext_dict_item st hm (k:=vs[i].1) (v:=vs[i].2) (by simp [hi]) fun key h' hkk st' sb=>?_
  have I1:Inv X pins σ H { s with heap:=h' }:=I.turned (t':=s.toks) (fun b o hb e=>(sb.2 b hb).trans e) f0 f1 f3 f4 f5
  obtain ⟨oi,e,c,d⟩:=id st'
  rw [← hlen] at st'
  exact ⟨key,rfl,L2.go_of (s:={ s with heap:=h' }) e c d (by decide) ⟨L2.kV kvs[i].1,H,I1,by rw [← hkey];exact key_rel hkk,⟨rfl,kvs[i],by simp [h2],rfl⟩,st',fun b hb=>(hf b hb).1⟩⟩
 done:=by
  intro X hP hw hK hc i pins s σ H E I hf st hg
  subst hP hw hK
  obtain ⟨h1,h2⟩:=hg
  obtain ⟨vs,es,ep',r,hd,hm,_⟩:=frz_at I h1
  have eep:ep'=ep:=by
   obtain ⟨es',hep⟩:=hep
   rw [hd] at hep
   cases hep;rfl
  subst eep
  obtain ⟨f0,f1,f2,f3,f4,f5⟩:=hf it (by simp)
  have hlen:kvs.length=vs.length:=r.length
  rw [hlen] at st
  exact wpAny_pyNext_dict_end (I.ok.hd hc) st hm (by simp;omega) fun h' eb=>⟨rfl,I.turned (t':=s.toks) (fun b o hb e=>eb b o hb e) f0 f1 f3 f4 f5⟩
 self:=fun _ _ _ _ _ st h=>wpAny_pyIter_keyiter st h
section
variable {X:Cx} {m m1:Md} {a e:Expr} {f:Ex} {tg:Expr}
def iKey (tl:TE):L2.TI:=fun σ H R=>tl σ H fun x H1=>∃ a o kvs,x=.ref a∧H1 a=some (.frz o (.dK kvs))∧R (Itk a o kvs) H1
theorem pi_key {l:Expr} {tl:TE} (hl:PE X l tl):L2.PI X tg l (iKey tl):=by
 intro pins s σ H R I h
 refine L2.thn (hl pins s σ H _ I h) fun v s1 ⟨x,H1,I1,r1,q1⟩=>?_
 obtain ⟨a,o,kvs,e,hq,q⟩:=q1
 subst e
 cases r1
 obtain ⟨vs,es,ep,r,hd,hm,hsm⟩:=frz_at I1 hq
 refine wpAny_pyIter_dict hsm hm ?_
 have hlen:kvs.length=vs.length:=r.length
 refine ⟨s1.heap.objs.size,[s1.heap.objs.size],_,_,H1,rfl,I1.kept (t':=s1.toks) fun b o e=>Heap.get?_push_of_some _ e,turn_keys a _ o kvs ep ⟨es,hd⟩,⟨_,Heap.get?_push_size _ rfl,rfl,by rw [hlen];rfl⟩,fun b hb=>?_,q⟩
 have e:b=s1.heap.objs.size:=by simpa using hb
 subst e
 exact I1.fpOk (Nat.le_refl _) (I1.hok.fresh (Nat.le_refl _))
theorem pi_keys {tg:Expr} (ha:PD X .k a f):PId X tg a (iKeys f):=PI.of (pi_key ha.h) fun σ H R ⟨BF,BH,F,env,L,ds,S,e,q⟩=>by
 unfold iKeys at e
 split at e
 ·rename_i kvs h1
  cases e
  refine ⟨BF,BH,F,env,L,_,S,h1,fun v F' H' z r=>?_⟩
  obtain ⟨p,o,rfl,hp⟩:=rep_dct r
  have hp':F' p=some (.frz o (.dK (kvV kvs))):=hp
  have hl:(kvV kvs).length=kvs.length:=by unfold kvV;exact List.length_map ..
  refine ⟨p,o,_,rfl,z.fh _ _ hp',q _ F' H' z ⟨fun H2 s2=>⟨s2 _ _ hp',by rw [hl,List.length_map];exact Nat.le_refl _⟩,fun i H2 s2 hi=>⟨s2 _ _ hp',by rw [hl];rwa [List.length_map] at hi⟩,fun i H2 x H3 F0 s1 s2 hi hy=>?_⟩⟩
  obtain ⟨rfl,pp,hpp,rfl⟩:=hy
  rw [List.length_map] at hi
  have e1:pp=(Sum.inl kvs[i].1,V.int kvs[i].2):=by
   unfold kvV at hpp
   rw [List.getElem?_map,List.getElem?_eq_getElem hi] at hpp
   exact (Option.some.inj hpp).symm
  subst e1
  exact ⟨.int kvs[i].1,F0,by simp [hi],.refl s2,by simp [Rep,L2.kV]⟩
 ·cases e
end
end PV
set_option linter.all false
set_option Elab.async false
set_option maxRecDepth 100000
set_option maxHeartbeats 4000000
namespace PV
open PySem PySem.Spec PyProof.Rows
open L2 (V Hp HO Vals SqL SqT Same upd Cx PE PT PW PA PS PSs TE TT TA TS Inv RelV upd_same upd_ne ne_of_none Un)
section
variable {X:Cx} {m m1 m2:Md} {r:RetP} {a b e:Expr} {f g:Ex} {pos p p2 pos':Pos}
def tLS (X:Cx) (ta:TE):TE:=fun σ H Q=>ta σ H fun x H1=>∃ y,[x]=[y]∧∃ (l:Addr) (ns:List Int),y=.ref l∧SqL X.K H1 l (ns.map V.int)∧ns.length≤3000∧Q (.int (seen ns).length) H1
theorem pe_lenset {p3 p4 : Pos} {ta : TE} (T : Bt X.mg) (ha : PE X a ta) (hc : X.calm = true) (hg : X.env.kindOf "len" = some .globalImplicit) (hg2 : X.env.kindOf "set" = some .globalImplicit) (hs : nst a = true) :
    PE X (.Call (.Name "len" p) [.Call (.Name "set" p3) [a] [] p4] [] pos) (tLS X ta) := by
  intro pins s σ H Q I h
  refine wpAny_Call_Name_kw (L2.ld_blt I hg T.len boot_len ?_ (by decide) (by decide))
  refine PyProof.Rows.callWith_builtin1 ?_ (star_cons rfl) rfl
  rw [star_one (env := X.env) (e := .Call (.Name "set" p3) [a] [] p4) rfl]
  show wpAny _ _ (spliced ((false, eval (.Call (.Name "set" p3) [a] [] p4) X.env) :: [])) _ _ s
  refine Calls.spliced_cons (L2.thn (Q := fun u s1 => ∃ (q : Addr) (ns : List Int) (H1 : Hp) (s0 : Shared) (h' : Heap) (tk : Nat), u = .ref q ∧ s1 = { s0 with heap := h', toks := tk } ∧ Inv X pins σ H1 s0 ∧ (∀ b o, s0.heap.get? b = some o → h'.get? b = some o) ∧
      SetX X.prog X.w h' q (!byT X.w) (seen ns) ∧ Q (.int (seen ns).length) H1) ?inner fun u s1 hu => Calls.spliced_nil ?outer)
  case inner =>
    refine wpAny_Call_Name_kw (L2.ld_blt I hg2 T.set PyProof.Rows.boot_set ?_ (by decide) (by decide))
    refine PyProof.Rows.callWith_type1 (L2.thn (L2.pa_cons ha L2.pa_nil (star_one hs) p4 pins s σ H (fun xs H1 => ∃ x, xs = [x] ∧ ∃ (l : Addr) (ns : List Int), x = .ref l ∧ SqL X.K H1 l (ns.map V.int) ∧ ns.length ≤ 3000 ∧ Q (.int (seen ns).length) H1) I h) fun us s1 ⟨xs, H1, I1, r1, q1⟩ => ?_) (star_cons hs) rfl
    obtain ⟨x, rfl, l, ns, rfl, hS, h3, q⟩ := q1
    obtain ⟨u, rfl, ru⟩ := r1.one
    cases ru
    obtain ⟨its, r, p, z⟩ := I1.list hS
    have hi := vals_ints r
    refine call_set (I1.ok.hd hc) p.isList (by simpa using hi) (by rw [show scanBound = 4096 from rfl]; omega) fun h' tk hX hk => ?_
    exact ⟨_, ns, H1, s1, h', tk, rfl, rfl, I1, fun b o e => hk b o (Heap.lt_size e) e, hX, q⟩
  case outer =>
    obtain ⟨q, ns, H1, s0, h', tk, rfl, rfl, I1, hk, hX, k⟩ := hu
    obtain ⟨o, es, ep, t, ho, hO⟩ := hX
    have hfew := hO.few
    refine call_len_set (s := { s0 with heap := h', toks := tk }) ho hO.ex hO.dat hO.fit (by rw [show scanBound = 4096 from rfl] at hfew; omega) ?_
    rw [hO.len]
    exact ⟨.int _, H1, I1.kept hk, ⟨_, rfl⟩, k⟩
theorem pd_lenset {p3 p4:Pos} (T:Bt X.mg) (ha:PD X m1 a f) (hc:X.calm=true:=by rfl) (hg:X.env.kindOf "len"=some .globalImplicit:=by kernel_rfl) (hg2:X.env.kindOf "set"=some .globalImplicit:=by kernel_rfl) (hs:nst a=true:=by rfl) :
  PD X m (.Call (.Name "len" p) [.Call (.Name "set" p3) [a] [] p4] [] pos) (eF1 fLenSet f) :=
 PD.mk <| PE.of (pe_lenset T ha.r.h hc hg hg2 hs) fun σ H Q ⟨BF,BH,F,env,L,d,S,e,q⟩=>by
  unfold eF1 at e
  split at e
  ·rename_i x hx
   refine ⟨BF,BH,F,env,L,_,S,hx,fun v F' H' z rx=>?_⟩
   unfold fLenSet at e
   split at e
   ·split at e
    ·rename_i xs ns hn
     split at e
     ·rename_i h3
      cases e
      have ex:=ints_of hn
      subst ex
      simp only [Rep] at rx
      obtain ⟨l,vs,rfl,hS,hr⟩:=rx
      have ev:=reps_intsV hr
      subst ev
      exact ⟨_,rfl,l,ns,rfl,hS,h3,q _ F' H' z (by simp [Rep])⟩
     ·cases e
    ·cases e
   ·cases e
  ·cases e
end
end PV
set_option linter.all false
set_option Elab.async false
set_option maxRecDepth 100000
set_option maxHeartbeats 4000000
namespace PV
open PySem PySem.Spec PyProof.Rows
open L2 (V Hp HO Vals SqL SqT Same upd Cx PE PT PW PA PS PSs TE TT TA TS Inv RelV upd_same upd_ne ne_of_none Un)
section
variable {X:Cx} {m m1 m2:Md} {r:RetP} {a b e:Expr} {f g:Ex} {pos p p2 pos':Pos}
theorem pn_non {j}:PDn X (.Constant .none j pos) (eC .non):=⟨PE.of L2.pe_non fun σ H Q ⟨BF,BH,F,env,L,d,S,e,q⟩=>by
 cases e
 exact q _ F H (.refl S.fh) (by simp [RepN])⟩
end
end PV
set_option linter.all false
set_option Elab.async false
set_option maxRecDepth 100000
set_option maxHeartbeats 4000000
namespace PV
open PySem PySem.Spec PyProof.Rows
open L2 (V Hp HO Vals SqL SqT Same upd Cx PE PT PW PA PS PSs TE TT TA TS Inv RelV upd_same upd_ne ne_of_none Un)
theorem enumD_len (xs:List D):(enumD 0 xs).length=xs.length:=by
 have:∀ (k:Nat) (xs:List D),(enumD k xs).length=xs.length:=by
  intro k xs
  induction xs generalizing k with
  | nil=>rfl
  | cons x xs ih=>simp [enumD,ih]
 exact this 0 xs
theorem enumD_get {xs:List D} {i:Nat} {d:D} (h:xs[i]?=some d):(enumD 0 xs)[i]?=some (.tup [.int i,d]):=by
 have:∀ (k i:Nat) (xs:List D),xs[i]?=some d→(enumD k xs)[i]?=some (.tup [.int ((k + i:Nat):Int),d]):=by
  intro k i xs
  induction xs generalizing k i with
  | nil=>intro h;simp at h
  | cons x xs ih =>
   intro h
   cases i with
   | zero=>simp at h;subst h;simp [enumD]
   | succ i=>simp at h;simp only [enumD,List.getElem?_cons_succ];rw [ih (k + 1) i h];congr 4;omega
 have:=this 0 i xs h
 simpa using this
def Ite (K:PySem.W.Frag) (a:Addr):L2.It :=
 ⟨fun i H=>∃ xs x,SqL K H a xs∧xs[i]?=some x,fun i H v H'=>∃ p x,H p=none∧v=.ref p∧H'=upd H p (.tup [.int i,x])∧∀ xs,SqL K H a xs→xs[i]?=some x,fun i H=>∃ xs,SqL K H a xs∧xs.length≤i⟩
theorem turned2 {X:Cx} {pins:List (Addr × Obj)} {σ:L2.St} {H:Hp} {s:Shared} {e it p:Addr} {h':Heap} {t':Nat} {xs:List V} (I:Inv X pins σ H s) (fe:L2.FpOk X pins H e) (fi:L2.FpOk X pins H it)
  (hp:s.heap.objs.size≤p) (k:∀ b o,b≠e→b≠it→s.heap.get? b=some o→h'.get? b=some o) (ke:∃ o,h'.get? e=some o) (ki:∃ o,h'.get? it=some o) (new:L2.ObjOk X.prog X.w (upd H p (.tup xs)) h' p (.tup xs)) :
  Inv X pins σ (upd H p (.tup xs)) { s with heap:=h',toks:=t' }:=by
 have hn:=I.hok.fresh hp
 refine I.step (g':=s.gens) (d':=s.drawn) (ch:=[e,it]) (fun b hb=>?_) (fun b o _ _ hc q _=>k b o (fun z=>hc (by simp [z])) (fun z=>hc (by simp [z])) q) (fun b o _ _ hc q _=>⟨o.slots,k b o (fun z=>hc (by simp [z])) (fun z=>hc (by simp [z])) q⟩) (fun b o hc q n=>?_)
  (fun b o hc q=>⟨o,k b o (fun z=>hc (by simp [z])) (fun z=>hc (by simp [z])) q⟩) (fun b ys q=>?_) (fun b o u q=>?_) (fun b ps q=>⟨#[],?_⟩) (fun m hm=>?_) (fun b u q=>?_) I.bare
 ·simp at hb
  rcases hb with rfl | rfl
  ·exact ⟨fe.2.2.2.1,fe.2.1,fe.2.2.2.2.1,fe.2.2.2.2.2⟩
  ·exact ⟨fi.2.2.2.1,fi.2.1,fi.2.2.2.2.1,fi.2.2.2.2.2⟩
 ·have:b≠p:=fun z=>by subst z;exact absurd (Nat.lt_of_lt_of_le (Heap.lt_size q) hp) (Nat.lt_irrefl _)
  rw [upd_ne this];exact n
 ·rw [upd_ne (ne_of_none q hn)];exact q
 ·rw [upd_ne (ne_of_none q hn)];exact q
 ·rw [upd_ne (ne_of_none q hn),q];simp
 ·obtain ⟨o,es,ep,ho,r⟩:=hm
  exact ⟨o,es,ep,k _ o (Ne.symm fe.2.1) (Ne.symm fi.2.1) ho,r⟩
 ·by_cases hb:b=p
  ·subst hb
   rw [upd_same] at q
   cases q
   exact new
  ·rw [upd_ne hb] at q
   refine (I.hok b u q).stay (fun c v hc z=>k c v ?_ ?_ z) (fun c z=>by rw [upd_ne (ne_of_none z hn)];exact z) fun c ys z=>by rw [upd_ne (ne_of_none z hn)];exact z
   ·rcases hc with z' | z'
    ·rw [z'];exact ne_of_none q fe.1
    ·exact ne_of_none z' fe.1
   ·rcases hc with z' | z'
    ·rw [z'];exact ne_of_none q fi.1
    ·exact ne_of_none z' fi.1
theorem turn_enum {P:Program} {w:World} {K:PySem.W.Frag} {elts:List Expr} {x1} {tp:Pos} (a e it:Addr) (hne:e≠it):L2.Turn P w K (.Tuple elts x1 tp) (Ite K a) [e,it] e (fun i h=>(∃ old,IsEnum h e it i old)∧h.IsListIter it a i) where
 mem:=by simp
 obj:=fun i h st b hb=>by
  obtain ⟨⟨old,h1⟩,o,h2,c,d⟩:=st
  simp at hb
  rcases hb with rfl | rfl
  ·exact ⟨_,h1,fun v z=>by cases z⟩
  ·exact ⟨o,h2,fun v z=>by rw [d] at z;cases z⟩
 keep:=fun i h h' st k=>⟨let ⟨old,h1⟩:=st.1;⟨old,k e (by simp) _ h1⟩,st.2.at fun o q=>k it (by simp) o q⟩
 item:=by
  intro X hP hw hK hc i pins s σ H E I hf st hg
  subst hP hw hK
  obtain ⟨xs,x,hq,hx⟩:=hg
  obtain ⟨its,rv,p,hz⟩:=I.list hq
  obtain ⟨u,hu,ru⟩:=rv.get hx
  obtain ⟨⟨old,st1⟩,st2⟩:=st
  refine wpAny_pyNext_enum_item st1 st2 p.isList (x:=u) (by simpa using hu) hne fun h' b1 b2 b3 b4 b5=>?_
  refine ⟨_,rfl,wpAny_letOwnedTupleGo_enum (s:={ s with heap:=h',toks:=s.toks + 1 }) b1 fun h2 c1 c2=>?_⟩
  have hep:e≠s.heap.objs.size:=Nat.ne_of_lt (Heap.lt_size st1)
  have hl2:h2.IsListIter it a (i + 1):=b2.at fun o q=>(c2.2 it (Ne.symm hne)).trans q
  have kk:∀ b o,b≠e→b≠it→s.heap.get? b=some o→h2.get? b=some o:=fun b o h1 h3 q=>(c2.2 b h1).trans (b5 b o h1 h3 q)
  have tup:h2.get? s.heap.objs.size=some { cls:=.type "tuple",data:=.seq #[.int i s.toks,u] }:=(c2.2 _ (Ne.symm hep)).trans b3
  have I2:Inv X pins σ (upd H s.heap.objs.size (.tup [.int i,x])) { s with heap:=h2,toks:=s.toks + 1 }:=turned2 I (hf e (by simp)) (hf it (by simp)) (Nat.le_refl _) kk ⟨_,c1⟩ (let ⟨o,q,_⟩:=hl2;⟨o,q⟩) ⟨by rw [sizeLine_eq];simp,[.int i s.toks,u],.cons ⟨_,rfl⟩ (.cons ru .nil),⟨_,tup,rfl,_,rfl⟩⟩
  refine ⟨.ref s.heap.objs.size,_,I2,rfl,⟨_,x,I.hok.fresh (Nat.le_refl _),rfl,rfl,fun ys hy=>by rw [I.list_inj hy hq];exact hx⟩,⟨⟨u,by simpa using c1⟩,hl2⟩,fun b hb=>?_⟩
  have hb':b≠s.heap.objs.size:=by
   simp at hb
   rcases hb with rfl | rfl
   ·exact hep
   ·obtain ⟨o,q,_⟩:=st2;exact Nat.ne_of_lt (Heap.lt_size q)
  rw [upd_ne hb'];exact (hf b hb).1
 done:=by
  intro X hP hw hK hc i pins s σ H E I hf st hg
  subst hP hw hK
  obtain ⟨xs,hq,hx⟩:=hg
  obtain ⟨its,rv,p,hz⟩:=I.list hq
  obtain ⟨⟨old,st1⟩,st2⟩:=st
  have hl:=rv.length
  obtain ⟨f0,f1,f2,f3,f4,f5⟩:=hf it (by simp)
  exact wpAny_pyNext_enum_end (I.ok.hd hc) st1 st2 p.isList (by simp;omega) fun h' eb=>⟨rfl,I.turned (t':=s.toks) (fun b o hb q=>eb b o hb q) f0 f1 f3 f4 f5⟩
 self:=fun _ _ _ _ _ st h=>let ⟨_,he⟩:=st.1;wpAny_pyIter_enum he h
section
variable {X:Cx} {m m1:Md} {a e:Expr} {f:Ex} {p pos:Pos}
def iEn (K:PySem.W.Frag) (tl:TE):L2.TI:=fun σ H R=>tl σ H fun x H1=>∃ y,[x]=[y]∧∃ a,y=.ref a∧(∃ xs,SqL K H1 a xs)∧R (Ite K a) H1
theorem pi_en {elts:List Expr} {x1} {tp:Pos} {tl:TE} (T:Bt X.mg) (ha:PE X a tl) (hg:X.env.kindOf "enumerate"=some .globalImplicit) (hs:nst a=true):L2.PI X (.Tuple elts x1 tp) (.Call (.Name "enumerate" p) [a] [] pos) (iEn X.K tl):=by
 intro pins s σ H R I h
 refine wpAny_Call_Name_kw (L2.ld_blt (u:=.type "enumerate") I hg T.enumerate (by decide +kernel) ?_ (by decide) (by decide))
 refine PyProof.Rows.callWith_type1 (L2.thn (L2.pa_cons ha L2.pa_nil (star_one hs) pos pins s σ H (fun xs H1=>∃ x,xs=[x]∧∃ a,x=.ref a∧(∃ ys,SqL X.K H1 a ys)∧R (Ite X.K a) H1) I h) fun us s1 ⟨xs,H1,I1,r1,q1⟩=>?_) (star_cons hs) rfl
 obtain ⟨x,rfl,l,rfl,⟨ys,hq⟩,q⟩:=q1
 obtain ⟨u,rfl,ru⟩:=r1.one
 cases ru
 obtain ⟨its,rv,pl,hz⟩:=I1.list hq
 refine call_enumerate_list pl.isList fun h' he hi hsz hk=>?_
 refine wpAny_pyIter_enum (s:={ s1 with heap:=h' }) he ?_
 refine ⟨s1.heap.objs.size + 1,[s1.heap.objs.size + 1,s1.heap.objs.size],_,_,H1,rfl,I1.kept (t':=s1.toks) hk,turn_enum l _ _ (Nat.succ_ne_self _),⟨⟨_,he⟩,hi⟩,fun b hb=>?_,q⟩
 simp at hb
 rcases hb with rfl | rfl
 ·exact I1.fpOk (Nat.le_succ _) (I1.hok.fresh (Nat.le_succ _))
 ·exact I1.fpOk (Nat.le_refl _) (I1.hok.fresh (Nat.le_refl _))
theorem pi_enum {elts:List Expr} {x1} {tp:Pos} (T:Bt X.mg) (ha:PD X .k a f) (hg:X.env.kindOf "enumerate"=some .globalImplicit:=by kernel_rfl) (hs:nst a=true:=by rfl):PId X (.Tuple elts x1 tp) (.Call (.Name "enumerate" p) [a] [] pos) (iEnum f):=PI.of (pi_en T ha.h hg hs) fun σ H R ⟨BF,BH,F,env,L,ds,S,e,q⟩=>by
 unfold iEnum at e
 split at e
 ·rename_i xs h1
  cases e
  refine ⟨BF,BH,F,env,L,_,S,h1,fun v F' H' z r=>?_⟩
  have r':Rep X.K F' (.lst xs) v:=r
  simp only [Rep] at r'
  obtain ⟨p,vs,rfl,hs,t⟩:=r'
  have hlen:=t.length
  refine ⟨_,rfl,p,rfl,⟨vs,z.fh.seq hs⟩,q _ F' H' z ⟨fun H2 s2=>⟨vs,s2.seq hs,by rw [enumD_len,hlen];exact Nat.le_refl _⟩,fun i H2 s2 hi=>?_,fun i H2 x H3 F0 s1 s2 hi hy=>?_⟩⟩
  ·rw [enumD_len] at hi
   exact ⟨vs,vs[i]'(by omega),s2.seq hs,by simp⟩
  ·rw [enumD_len] at hi
   obtain ⟨pp,y,hpp,rfl,rfl,hx⟩:=hy
   have hxi:=hx vs ((s1.trans s2).seq hs)
   obtain ⟨d,k1,k2⟩:=t.getV hxi
   refine ⟨.tup [.int i,d],upd F0 pp (.tup [.int i,y]),enumD_get k1,Ext.laid s2 hpp,?_⟩
   simp only [Rep,Reps]
   exact ⟨pp,_,rfl,.inl (.inl upd_same),_,_,rfl,rfl,_,_,rfl,Rep.mono (fun b o hb=>by rw [upd_ne (ne_of_none (s2 _ _ (s1 _ _ hb)) hpp)];exact s1 _ _ hb) _ _ k2,rfl⟩
 ·cases e
theorem pg_2 (nd:X.N.Nodup) (i j:Nat) {x y:Str} {p1 p2 p3:Pos} {k:Nat} (hc:X.calm=true:=by rfl) (hi:X.N[i]?=some x:=by kernel_rfl) (hx:locB X.env.scope x=true:=by kernel_rfl) (hf:fnB X x=true:=by kernel_rfl)
  (hj:X.N[j]?=some y:=by kernel_rfl) (hy:locB X.env.scope y=true:=by kernel_rfl) (hf2:fnB X y=true:=by kernel_rfl)
  (h2:(assignEach [.Name x p1,.Name y p2] X.env).map (·.2)=assign (.Name x p1) X.env::(assignEach [.Name y p2] X.env).map (·.2):=by rfl)
  (h3:(assignEach [.Name y p2] X.env).map (·.2)=assign (.Name y p2) X.env::(assignEach [] X.env).map (·.2):=by rfl)
  (h4:(assignEach [.Name x p1,.Name y p2] X.env).length=2:=by rfl) (h5:(assignEach [.Name x p1,.Name y p2] X.env).findIdx? (·.1)=none:=by rfl) :
  PGd X (.Tuple [.Name x p1,.Name y p2] k p3) (g2 i j) :=
 fun pins s σ H v u Q I r ⟨BF,BH,F,env,L,d,env1,S,rd,e,kk⟩=>L2.pg_tup hc (L2.pgs_cons (L2.pg_name nd hi (locB_ok hx) (fnB_ok hf)) (L2.pgs_cons (L2.pg_name nd hj (locB_ok hy) (fnB_ok hf2)) L2.pgs_nil h3) h2) h4 h5 pins s σ H v u Q I r (by
  unfold g2 at e
  split at e
  ·rename_i d1 d2
   cases e
   simp only [Rep,Reps] at rd
   obtain ⟨a,vs,rfl,hS,v1,r1,rfl,e1,v2,r2,rfl,e2,rfl⟩:=rd
   exact ⟨a,_,rfl,seqT S.fh hS,rfl,v1,[v2],rfl,v2,[],rfl,rfl,kk F H _ _ ((S.setSh i e1).setSh j e2) (.refl _)⟩
  ·cases e)
end
end PV
set_option linter.all false
set_option Elab.async false
namespace PV
open PySem PySem.Spec PyProof.Rows
open L2 (V Hp HO Same Cx)
theorem reps_ints {K:PySem.W.Frag} {H:Hp}:∀ ns:List Int,Reps K H (ns.map D.int) (ns.map V.int)
 | []=>Reps.nil
 | n::r=>by
  rw [List.map_cons,List.map_cons]
  exact Reps.cons (by simp [Rep]) (reps_ints r)
theorem law_start {K:PySem.W.Frag} {H:Hp} {a:Addr} {ns:List Int} {φ:List D→Option D} {z} (h:φ [rowD ns]=some (.bl true)) (hS:L2.SqL K H a (ns.map V.int)) :
  spR K (rk K .k) φ [.ref a] H (fun v _=>v=.bl true) z :=
 ⟨H,[rowD ns],.bl true,.refl H,Reps.cons (by unfold rowD;simp only [Rep];exact ⟨a,_,rfl,hS,reps_ints ns⟩) Reps.nil,h,fun v F' H' _ r=>by
  simp only [rk,Rep] at r
  exact r⟩
end PV
set_option linter.all false
set_option Elab.async false
namespace PV
open PySem (Str)
def R_is_element:St:=(sRet (eB (tAnd (t2I pGe (eVar 1) (eC (.int 0))) (t2I pLt (eVar 1) (eF1 fLen (eVar 0))))))
def φ_is_element:List D→Option D:=run 2 2 R_is_element
def R_ask_table:St:=(sSeq (sSet 1 (eF1 fLen (eVar 0))) (sSeq (sIf (tOr (t2I pLt (eVar 1) (eC (.int 1))) (t2I pGt (eVar 1) (eC (.int 12)))) (sNever) sSkip) (sFor (gN 2) (iOf (eVar 0)) (sSeq (sIf (tNe (eF1 fLen (eVar 2)) (eVar 1)) (sNever) sSkip) (sIf (tNot (tB (eF1 fAll (eComp 3 (iOf (eVar 2)) tTrue (eCall φ_is_element [(eVar 0),(eVar 3)]))))) (sNever) sSkip)))))
def φ_ask_table:List D→Option D:=run 1 4 R_ask_table
def R_find_three:St:=(sSeq (sSet 1 (eF1 fLen (eVar 0))) (sSeq (sFor (gN 2) (iRng (eVar 1)) (sFor (gN 3) (iRng (eVar 1)) (sFor (gN 4) (iRng (eVar 1)) (sIf (tNe (eIx (eIx (eVar 0) (eIx (eIx (eVar 0) (eVar 2)) (eVar 3))) (eVar 4)) (eIx (eIx (eVar 0) (eVar 2)) (eIx (eIx (eVar 0) (eVar 3)) (eVar 4)))) (sRet (eTup [(eC (.str "three")),(eVar 2),(eVar 3),(eVar 4)])) sSkip)))) (sRet (eC .non))))
def φ_find_three:List D→Option D:=run 1 5 R_find_three
def R_find_rest:St:=(sSeq (sSet 1 (eF1 fLen (eVar 0))) (sSeq (sFor (gN 2) (iRng (eVar 1)) (sIf (tB (eF1 fAll (eComp 3 (iRng (eVar 1)) tTrue (eB (tAnd (tEq (eIx (eIx (eVar 0) (eVar 2)) (eVar 3)) (eVar 3)) (tEq (eIx (eIx (eVar 0) (eVar 3)) (eVar 2)) (eVar 3))))))) (sRet (eVar 2)) sSkip)) (sRet (eC .non))))
def φ_find_rest:List D→Option D:=run 1 4 R_find_rest
def R_find_back:St:=(sSeq (sFor (gN 3) (iRng (eF1 fLen (eVar 0))) (sIf (tAnd (tEq (eIx (eIx (eVar 0) (eVar 2)) (eVar 3)) (eVar 1)) (tEq (eIx (eIx (eVar 0) (eVar 3)) (eVar 2)) (eVar 1))) (sRet (eVar 3)) sSkip)) (sRet (eC .non)))
def φ_find_back:List D→Option D:=run 3 4 R_find_back
def R_find_flaw:St:=(sSeq (sSet 1 (eCall φ_find_three [(eVar 0)])) (sSeq (sIf (tNoN (eVar 1)) (sRet (eVar 1)) sSkip) (sSeq (sSet 2 (eCall φ_find_rest [(eVar 0)])) (sSeq (sIf (tIsN (eVar 2)) (sRet (eTup [(eC (.str "rest"))])) sSkip) (sSeq (sFor (gN 3) (iRng (eF1 fLen (eVar 0))) (sIf (tIsN (eCall φ_find_back [(eVar 0),(eVar 2),(eVar 3)])) (sRet (eTup [(eC (.str "back")),(eVar 3)])) sSkip)) (sRet (eC .non)))))))
def φ_find_flaw:List D→Option D:=run 1 4 R_find_flaw
def R_flaw:St:=(sSeq (sDo (eCall φ_ask_table [(eVar 0)])) (sRet (eCall φ_find_flaw [(eVar 0)])))
def φ_flaw:List D→Option D:=run 1 1 R_flaw
def R_ask_folk:St:=(sSeq (sDo (eCall φ_ask_table [(eVar 0)])) (sIf (tNoN (eCall φ_find_flaw [(eVar 0)])) (sNever) sSkip))
def φ_ask_folk:List D→Option D:=run 1 1 R_ask_folk
def R_rest:St:=(sSeq (sDo (eCall φ_ask_folk [(eVar 0)])) (sRet (eCall φ_find_rest [(eVar 0)])))
def φ_rest:List D→Option D:=run 1 1 R_rest
def R_with_all_made:St:=(sSeq (sOwn 2 (eF1 fList (eVar 1))) (sSeq (sFor (gN 3) (iOf (eVar 1)) (sExt 2 (eComp 4 (iOf (eVar 1)) tTrue (eIx (eIx (eVar 0) (eVar 3)) (eVar 4))))) (sRet (eF1 fSortSet (eVarR 2)))))
def φ_with_all_made:List D→Option D:=run 2 5 R_with_all_made
def R_least_part:St:=(sSeq (sSetF 2 (eF1 fSortSet (eAdd (eVar 1) (eLst [(eCall φ_find_rest [(eVar 0)])])))) (sSeq (sSetF 3 (eCall φ_with_all_made [(eVar 0),(eVar 2)])) (sSeq (whileN (tNe (eVar 3) (eVar 2)) (sSeq (sSetF 2 (eVarF 3)) (sSetF 3 (eCall φ_with_all_made [(eVar 0),(eVar 2)]))) 1000) (sRet (eVarF 2)))))
def φ_least_part:List D→Option D:=run 2 4 R_least_part
def R_fewest_first:St:=(sRet (eTup [(eF1 fLen (eVar 0)),(eVar 0)]))
def φ_fewest_first:List D→Option D:=run 1 1 R_fewest_first
def R_parts:St:=(sSeq (sDo (eCall φ_ask_folk [(eVar 0)])) (sSeq (sNew 1 (eLst [(eCall φ_least_part [(eVar 0),(eLst [])])])) (sSeq (sFor (gN 2) (iRng (eF1 fLen (eVar 0))) (sFor (gN 3) (iOf (eF1 fList (eVarO 1))) (sSeq (sSetF 4 (eCall φ_least_part [(eVar 0),(eAdd (eVar 3) (eLst [(eVar 2)]))])) (sIf (tNi (eVar 4) (eVarR 1)) (sAppN 1 (eVarF 4)) sSkip)))) (sRet (eF1 (fSortK φ_fewest_first) (eVarW 1))))))
def φ_parts:List D→Option D:=run 1 5 R_parts
def R_ask_part:St:=(sSeq (sIf (tNot (tB (eF1 fAll (eComp 2 (iOf (eVar 1)) tTrue (eCall φ_is_element [(eVar 0),(eVar 2)]))))) (sNever) sSkip) (sIf (tNe (eCall φ_least_part [(eVar 0),(eVar 1)]) (eVar 1)) (sNever) sSkip))
def φ_ask_part:List D→Option D:=run 2 3 R_ask_part
def R_share_ahead:St:=(sRet (eFl (eF1 fSort (eComp 3 (iOf (eVar 1)) tTrue (eIx (eIx (eVar 0) (eVar 2)) (eVar 3))))))
def φ_share_ahead:List D→Option D:=run 3 4 R_share_ahead
def R_all_shares:St:=(sSeq (sNew 2 (eLst [])) (sSeq (sFor (gN 3) (iRng (eF1 fLen (eVar 0))) (sSeq (sSetF 4 (eCall φ_share_ahead [(eVar 0),(eVar 1),(eVar 3)])) (sIf (tEq (eIx (eVar 4) (eC (.int 0))) (eVar 3)) (sAppN 2 (eVarF 4)) sSkip))) (sSeq (sFrz 2) (sRet (eVarF 2)))))
def φ_all_shares:List D→Option D:=run 2 5 R_all_shares
def R_shares:St:=(sSeq (sDo (eCall φ_ask_folk [(eVar 0)])) (sSeq (sDo (eCall φ_ask_part [(eVar 0),(eVar 1)])) (sRet (eCall φ_all_shares [(eVar 0),(eVar 1)]))))
def φ_shares:List D→Option D:=run 2 2 R_shares
def R_share_behind:St:=(sRet (eFl (eF1 fSort (eComp 3 (iOf (eVar 1)) tTrue (eIx (eIx (eVar 0) (eVar 3)) (eVar 2))))))
def φ_share_behind:List D→Option D:=run 3 4 R_share_behind
def R_same_on_both_sides:St:=(sRet (eF1 fAll (eComp 2 (iRng (eF1 fLen (eVar 0))) tTrue (eB (tEq (eCall φ_share_ahead [(eVar 0),(eVar 1),(eVar 2)]) (eCall φ_share_behind [(eVar 0),(eVar 1),(eVar 2)]))))))
def φ_same_on_both_sides:List D→Option D:=run 2 3 R_same_on_both_sides
def R_is_loose:St:=(sSeq (sDo (eCall φ_ask_folk [(eVar 0)])) (sSeq (sDo (eCall φ_ask_part [(eVar 0),(eVar 1)])) (sRet (eCall φ_same_on_both_sides [(eVar 0),(eVar 1)]))))
def φ_is_loose:List D→Option D:=run 2 2 R_is_loose
def R_table_of_shares:St:=(sSeq (sDNew 2) (sSeq (sFor (g2 3 4) (iEnum (eVar 1)) (sFor (gN 5) (iOf (eVar 4)) (sDPut 2 (eVar 5) (eVar 3)))) (sSeq (sSet 6 (eComp 4 (iOf (eVar 1)) tTrue (eIx (eVar 4) (eC (.int 0))))) (sSeq (sOwn 7 (eLst [])) (sSeq (sFor (gN 8) (iOf (eVar 6)) (sSeq (sFrz 2) (sApp 7 (eComp 9 (iOf (eVar 6)) tTrue (eGetD (eVar 2) (eIx (eIx (eVar 0) (eVar 8)) (eVar 9))))))) (sSeq (sFrz 7) (sRet (eVar 7))))))))
def φ_table_of_shares:List D→Option D:=run 2 10 R_table_of_shares
def R_taken_out:St:=(sSeq (sDo (eCall φ_ask_folk [(eVar 0)])) (sSeq (sDo (eCall φ_ask_part [(eVar 0),(eVar 1)])) (sSeq (sIf (tNot (tB (eCall φ_same_on_both_sides [(eVar 0),(eVar 1)]))) (sNever) sSkip) (sSeq (sSet 2 (eCall φ_all_shares [(eVar 0),(eVar 1)])) (sRet (eCall φ_table_of_shares [(eVar 0),(eVar 2)]))))))
def φ_taken_out:List D→Option D:=run 2 3 R_taken_out
def R_makes_the_same_behind:St:=(sRet (eF1 fAll (eComp 2 (iRng (eF1 fLen (eVar 0))) tTrue (eB (tEq (eIx (eIx (eVar 0) (eVar 1)) (eVar 2)) (eIx (eIx (eVar 0) (eVar 2)) (eVar 1)))))))
def φ_makes_the_same_behind:List D→Option D:=run 2 3 R_makes_the_same_behind
def R_middle:St:=(sSeq (sDo (eCall φ_ask_folk [(eVar 0)])) (sRet (eFl (eComp 1 (iRng (eF1 fLen (eVar 0))) (tB (eCall φ_makes_the_same_behind [(eVar 0),(eVar 1)])) (eVar 1)))))
def φ_middle:List D→Option D:=run 1 2 R_middle
def R_least_without_name:St:=(sSeq (sSet 1 (eC (.int 0))) (sSeq (whileN (tInD (eVar 1) (eVar 0)) (sSet 1 (eAdd (eVar 1) (eC (.int 1)))) 1000) (sRet (eVar 1))))
def φ_least_without_name:List D→Option D:=run 1 2 R_least_without_name
def R_with_all_named:St:=(sSeq (sDict 3 (eVar 2)) (sSeq (sFor (gN 4) (iKeys (eVar 2)) (sFor (gN 5) (iKeys (eVar 2)) (sSeq (sSet 6 (eIx (eIx (eVar 0) (eVar 4)) (eVar 5))) (sSeq (sSet 7 (eIx (eIx (eVar 1) (eGetD (eVar 2) (eVar 4))) (eGetD (eVar 2) (eVar 5)))) (sSeq (sIf (tNe (eGet2 3 (eVar 6) (eVar 7)) (eVar 7)) (sRet (eC .non)) sSkip) (sDPut 3 (eVar 6) (eVar 7))))))) (sSeq (sFrz 3) (sSeq (sIf (t2I pLt (eF1 fLenSet (eComp 8 (iKeys (eVar 3)) tTrue (eGetD (eVar 3) (eVar 8)))) (eF1 fLenD (eVar 3))) (sRet (eC .non)) sSkip) (sSeq (sFrz 3) (sRet (eVar 3)))))))
def φ_with_all_named:List D→Option D:=run 3 9 R_with_all_named
def R_with_name:St:=(sSeq (sDict 5 (eVar 2)) (sSeq (sDPut 5 (eVar 3) (eVar 4)) (sSeq (sFrz 5) (sSeq (sSet 6 (eCall φ_with_all_named [(eVar 0),(eVar 1),(eVar 5)])) (sSeq (whileN (tAnd (tNoN (eVar 6)) (t2I pGt (eF1 fLenD (eVar 6)) (eF1 fLenD (eVar 5)))) (sSeq (sSet 5 (eVar 6)) (sSeq (sFrz 5) (sSet 6 (eCall φ_with_all_named [(eVar 0),(eVar 1),(eVar 5)])))) 1000) (sRet (eVar 6)))))))
def φ_with_name:List D→Option D:=run 5 7 R_with_name
def R_find_renaming (self:List D→Option D):St:=(sSeq (sIf (tEq (eF1 fLenD (eVar 2)) (eF1 fLen (eVar 0))) (sRet (eFl (eComp 3 (iRng (eF1 fLen (eVar 0))) tTrue (eGetD (eVar 2) (eVar 3))))) sSkip) (sSeq (sSet 3 (eCall φ_least_without_name [(eVar 2)])) (sSeq (sFor (gN 4) (iRng (eF1 fLen (eVar 1))) (sSeq (sSet 5 (eCall φ_with_name [(eVar 0),(eVar 1),(eVar 2),(eVar 3),(eVar 4)])) (sIf (tNoN (eVar 5)) (sSeq (sSetF 6 (eCall self [(eVar 0),(eVar 1),(eVar 5)])) (sIf (tNoN (eVar 6)) (sRet (eVarF 6)) sSkip)) sSkip))) (sRet (eC .non)))))
def φn_find_renaming:Nat→List D→Option D
 | 0=>fun _=>none
 | k + 1=>run 3 7 (R_find_renaming (φn_find_renaming k))
def φ_find_renaming:List D→Option D:=φn_find_renaming 13
def R_renaming:St:=(sSeq (sDo (eCall φ_ask_folk [(eVar 0)])) (sSeq (sDo (eCall φ_ask_folk [(eVar 1)])) (sSeq (sIf (tNe (eF1 fLen (eVar 0)) (eF1 fLen (eVar 1))) (sRet (eC .non)) sSkip) (sRet (eCall φ_find_renaming [(eVar 0),(eVar 1),(eDisp (eCall φ_find_rest [(eVar 0)]) (eCall φ_find_rest [(eVar 1)]))])))))
def φ_renaming:List D→Option D:=run 2 2 R_renaming
def R_law_cell_at:St:=(sSeq (sIf (t2I pLt (eVar 1) (eF1 fLen (eVar 0))) (sRet (eIx (eVar 0) (eVar 1))) sSkip) (sRet (eC (.int 0))))
def φ_law_cell_at:List D→Option D:=run 2 2 R_law_cell_at
def R_law_draw:St:=(sSeq (sIf (tEq (e2I iMod (eVar 0) (eC (.int 2))) (eC (.int 0))) (sSeq (sSet 3 (e2I iDiv (eVar 0) (eC (.int 2)))) (sSeq (sFor (gN 4) (iRng (eVar 1)) (sSet 3 (e2I iDiv (eVar 3) (eVar 2)))) (sRet (e2I iMod (eVar 3) (eVar 2))))) sSkip) (sSeq (sSet 5 (e2I iMod (e2I iMul (eAdd (eAdd (e2I iMod (eVar 0) (eC (.int 2147483647))) (e2I iMul (eC (.int 977)) (eVar 1))) (eC (.int 1))) (eC (.int 48271))) (eC (.int 2147483647)))) (sSeq (sSet 5 (e2I iMod (e2I iMul (eVar 5) (eVar 5)) (eC (.int 2147483629)))) (sSeq (sSet 5 (e2I iMod (e2I iMul (eAdd (eVar 5) (e2I iMul (eC (.int 40692)) (eAdd (eVar 1) (eC (.int 3))))) (eC (.int 69621))) (eC (.int 2147483647)))) (sRet (e2I iMod (e2I iDiv (eVar 5) (eC (.int 8))) (eVar 2)))))))
def φ_law_draw:List D→Option D:=run 3 6 R_law_draw
def R_law_cycles:St:=(sSeq (sSet 1 (eC (.int 1))) (sSeq (sFor (gN 2) (iOf (eVar 0)) (sSet 1 (e2I iMul (eVar 1) (eVar 2)))) (sSeq (sOwn 3 (eLst [])) (sSeq (sFor (gN 4) (iRng (eVar 1)) (sSeq (sOwn 5 (eLst [])) (sSeq (sFor (gN 6) (iRng (eVar 1)) (sSeq (sSet 7 (eC (.int 0))) (sSeq (sSet 8 (eC (.int 1))) (sSeq (sFor (gN 2) (iOf (eVar 0)) (sSeq (sSet 7 (eAdd (eVar 7) (e2I iMul (e2I iMod (eAdd (e2I iDiv (eVar 4) (eVar 8)) (e2I iDiv (eVar 6) (eVar 8))) (eVar 2)) (eVar 8)))) (sSet 8 (e2I iMul (eVar 8) (eVar 2))))) (sApp 5 (eVar 7)))))) (sSeq (sFrz 5) (sApp 3 (eVar 5)))))) (sSeq (sFrz 3) (sRet (eVar 3)))))))
def φ_law_cycles:List D→Option D:=run 1 9 R_law_cycles
def R_law_twisted:St:=(sSeq (sOwn 2 (eLst [])) (sSeq (sFor (gN 3) (iRng (e2I iMul (eC (.int 2)) (eVar 0))) (sSeq (sOwn 4 (eLst [])) (sSeq (sFor (gN 5) (iRng (e2I iMul (eC (.int 2)) (eVar 0))) (sSeq (sSet 6 (eIx (eLst [(e2I iMod (eVar 5) (eVar 0)),(e2I iSub (eC (.int 0)) (e2I iMod (eVar 5) (eVar 0)))]) (e2I iDiv (eVar 3) (eVar 0)))) (sSeq (sSet 7 (e2I iMul (e2I iDiv (eVar 3) (eVar 0)) (e2I iDiv (eVar 5) (eVar 0)))) (sSeq (sSet 8 (e2I iMod (eAdd (eAdd (e2I iMod (eVar 3) (eVar 0)) (eVar 6)) (e2I iMul (eVar 1) (eVar 7))) (eVar 0))) (sApp 4 (eAdd (eVar 8) (e2I iMul (eVar 0) (e2I iMod (eAdd (e2I iDiv (eVar 3) (eVar 0)) (e2I iDiv (eVar 5) (eVar 0))) (eC (.int 2)))))))))) (sSeq (sFrz 4) (sApp 2 (eVar 4)))))) (sSeq (sFrz 2) (sRet (eVar 2)))))
def φ_law_twisted:List D→Option D:=run 2 9 R_law_twisted
def R_law_even:St:=(sSeq (sSet 0 (eLst [(eLst [])])) (sSeq (sFor (gN 1) (iRng (eC (.int 4))) (sSeq (sSet 2 (eLst [])) (sSeq (sFor (gN 3) (iOf (eVar 0)) (sSet 2 (eAdd (eVar 2) (eComp 4 (iRng (eC (.int 4))) (tNi (eVar 4) (eVar 3)) (eAdd (eVar 3) (eLst [(eVar 4)])))))) (sSet 0 (eVar 2))))) (sSeq (sOwn 5 (eLst [])) (sSeq (sFor (gN 3) (iOf (eVar 0)) (sSeq (sSet 6 (eC (.int 0))) (sSeq (sFor (gN 7) (iRng (eC (.int 4))) (sSet 6 (eAdd (eVar 6) (eF1 fLen (eComp 1 (iRng (eVar 7)) (t2I pGt (eIx (eVar 3) (eVar 1)) (eIx (eVar 3) (eVar 7))) (eVar 1)))))) (sIf (tEq (e2I iMod (eVar 6) (eC (.int 2))) (eC (.int 0))) (sApp 5 (eVar 3)) sSkip)))) (sSeq (sOwn 8 (eLst [])) (sSeq (sFrz 5) (sSeq (sFor (gN 9) (iOf (eVar 5)) (sSeq (sFrz 5) (sApp 8 (eComp 10 (iOf (eVar 5)) tTrue (eF2 fIndex (eVarR 5) (eComp 4 (iOf (eVar 9)) tTrue (eIx (eVar 10) (eVar 4)))))))) (sSeq (sFrz 8) (sRet (eVar 8))))))))))
def φ_law_even:List D→Option D:=run 0 11 R_law_even
def R_law_base:St:=(sSeq (sSet 1 (eLst [(eLst [(eC (.int 1))]),(eLst [(eC (.int 2))]),(eLst [(eC (.int 3))]),(eLst [(eC (.int 4))]),(eLst [(eC (.int 2)),(eC (.int 2))]),(eLst [(eC (.int 5))]),(eLst [(eC (.int 6))]),(eLst [(eC (.int 7))]),(eLst [(eC (.int 8))])])) (sSeq (sSet 1 (eAdd (eVar 1) (eLst [(eLst [(eC (.int 2)),(eC (.int 4))]),(eLst [(eC (.int 2)),(eC (.int 2)),(eC (.int 2))]),(eLst [(eC (.int 9))]),(eLst [(eC (.int 3)),(eC (.int 3))]),(eLst [(eC (.int 10))]),(eLst [(eC (.int 11))]),(eLst [(eC (.int 12))]),(eLst [(eC (.int 2)),(eC (.int 6))])]))) (sSeq (sIf (t2I pLt (eVar 0) (eC (.int 17))) (sRet (eCall φ_law_cycles [(eIx (eVar 1) (eVar 0))])) sSkip) (sSeq (sIf (t2I pLt (eVar 0) (eC (.int 23))) (sSeq (sSet 2 (eIx (eLst [(eTup [(eC (.int 3)),(eC (.int 0))]),(eTup [(eC (.int 4)),(eC (.int 0))]),(eTup [(eC (.int 5)),(eC (.int 0))]),(eTup [(eC (.int 6)),(eC (.int 0))]),(eTup [(eC (.int 4)),(eC (.int 2))]),(eTup [(eC (.int 6)),(eC (.int 3))])]) (e2I iSub (eVar 0) (eC (.int 17))))) (sRet (eCall φ_law_twisted [(eIx (eVar 2) (eC (.int 0))),(eIx (eVar 2) (eC (.int 1)))]))) sSkip) (sRet (eCall φ_law_even []))))))
def φ_law_base:List D→Option D:=run 1 3 R_law_base
def R_law_renamed:St:=(sSeq (sOwn 2 (eLst [])) (sSeq (sFor (gN 3) (iRng (eF1 fLen (eVar 0))) (sIns 2 (e2I iMod (eCall φ_law_draw [(eVar 1),(eVar 3),(eC (.int 12))]) (eAdd (eVar 3) (eC (.int 1)))) (eVar 3))) (sSeq (sTab 4 (eComp 5 (iOf (eVar 0)) tTrue (eF1 fList (eVar 5)))) (sSeq (sFor (gN 6) (iRng (eF1 fLen (eVar 0))) (sFor (gN 7) (iRng (eF1 fLen (eVar 0))) (sPut2 4 (eIx (eVarR 2) (eVar 6)) (eIx (eVarR 2) (eVar 7)) (eSc (eIx (eVarR 2) (eIx (eIx (eVar 0) (eVar 6)) (eVar 7))))))) (sRetT 4)))))
def φ_law_renamed:List D→Option D:=run 2 8 R_law_renamed
def R_law_folk_by:St:=(sRet (eCall φ_law_renamed [(eCall φ_law_base [(e2I iMod (eCall φ_law_cell_at [(eVar 0),(eVar 1)]) (eC (.int 24)))]),(eCall φ_law_cell_at [(eVar 0),(eAdd (eVar 1) (eC (.int 1)))])]))
def φ_law_folk_by:List D→Option D:=run 2 2 R_law_folk_by
def R_law_place:St:=(sRet (eIx (eComp 2 (iRng (eF1 fLen (eVar 0))) (tIn (eVar 1) (eIx (eVar 0) (eVar 2))) (eVar 2)) (eC (.int 0))))
def φ_law_place:List D→Option D:=run 2 3 R_law_place
def R_law_right:St:=(sSeq (sSet 4 (eCall φ_taken_out [(eVar 0),(eF1 fList (eVar 1))])) (sSeq (sSet 5 (eCall φ_shares [(eVar 0),(eF1 fList (eVar 1))])) (sSeq (sIf (tOr (tNe (eF1 fLen (eVar 4)) (eF1 fLen (eVar 5))) (tOr (tNoN (eCall φ_flaw [(eVar 4)])) (tNe (eIx (eVar 5) (eCall φ_rest [(eVar 4)])) (eVar 1)))) (sRet (eC (.bl false))) sSkip) (sRet (eB (tEq (eIx (eIx (eVar 4) (eCall φ_law_place [(eVar 5),(eVar 2)])) (eCall φ_law_place [(eVar 5),(eVar 3)])) (eCall φ_law_place [(eVar 5),(eIx (eIx (eVar 0) (eVar 2)) (eVar 3))])))))))
def φ_law_right:List D→Option D:=run 4 6 R_law_right
def R_law:St:=(sSeq (sSet 1 (eCall φ_law_folk_by [(eVar 0),(eC (.int 0))])) (sSeq (sSet 2 (e2I iMod (eCall φ_law_cell_at [(eVar 0),(eC (.int 2))]) (eF1 fLen (eVar 1)))) (sSeq (sSet 3 (e2I iMod (eCall φ_law_cell_at [(eVar 0),(eC (.int 3))]) (eF1 fLen (eVar 1)))) (sSeq (sSet 4 (eCall φ_parts [(eVar 1)])) (sSeq (sFor (gN 5) (iOf (eLst [(eC (.int 0)),(e2I iMod (eCall φ_law_cell_at [(eVar 0),(eC (.int 4))]) (eF1 fLen (eVar 4))),(e2I iMod (eCall φ_law_cell_at [(eVar 0),(eC (.int 5))]) (eF1 fLen (eVar 4)))])) (sSeq (sSet 6 (eIx (eVar 4) (eVar 5))) (sIf (tAnd (tB (eCall φ_is_loose [(eVar 1),(eF1 fList (eVar 6))])) (tNot (tB (eCall φ_law_right [(eVar 1),(eVar 6),(eVar 2),(eVar 3)])))) (sRet (eC (.bl false))) sSkip))) (sSeq (sIf (tOr (tNe (eCall φ_taken_out [(eVar 1),(eF1 fRangeList (eF1 fLen (eVar 1)))]) (eLst [(eLst [(eC (.int 0))])])) (tNot (tB (eCall φ_is_loose [(eVar 1),(eCall φ_middle [(eVar 1)])])))) (sRet (eC (.bl false))) sSkip) (sRet (eB (tAnd (tNoN (eCall φ_renaming [(eCall φ_taken_out [(eVar 1),(eLst [(eCall φ_rest [(eVar 1)])])]),(eVar 1)])) (tIn (eCall φ_middle [(eVar 1)]) (eVar 4)))))))))))
def φ_law:List D→Option D:=run 1 7 R_law
end PV
set_option linter.all false
set_option Elab.async false
set_option maxHeartbeats 2000000
namespace PV
open PySem (Str)
def threeAt (T:List (List Int)):D→D→D→Option D
 | .int a,.int b,.int c=>if tg T (tg T a b) c == tg T a (tg T b c) then none else some (.tup [.str "three",.int a,.int b,.int c])
 | _,_,_=>none
def threeOf (T:List (List Int)) (n:Nat):Option D :=
 (rangeD 0 n).findSome? fun a=>(rangeD 0 n).findSome? fun b=>(rangeD 0 n).findSome? fun c=>threeAt T a b c
def threeBody:St:=sIf (tNe (eIx (eIx (eVar 0) (eIx (eIx (eVar 0) (eVar 2)) (eVar 3))) (eVar 4)) (eIx (eIx (eVar 0) (eVar 2)) (eIx (eIx (eVar 0) (eVar 3)) (eVar 4))))
 (sRet (eTup [(eC (.str "three")),(eVar 2),(eVar 3),(eVar 4)])) sSkip
theorem three_body {T:List (List Int)} {n:Nat} (hT:Tab T n) {env:Env} {a b c:Nat} (ha:a < n) (hb:b < n) (hc:c < n) (k0:eVar 0 env=some (tabD T)) (k2:eVar 2 env=some (.int a)) (k3:eVar 3 env=some (.int b)) (k4:eVar 4 env=some (.int c)) :
  threeBody env=match threeAt T (.int a) (.int b) (.int c) with
   | some r=>some (.rt r,env)
   | none=>some (.nx,env):=by
 have b1:=hT.bound (a:=a) (b:=b) (by omega) (by omega) (by omega) (by omega)
 have b2:=hT.bound (a:=b) (b:=c) (by omega) (by omega) (by omega) (by omega)
 have e1:=ix2 hT (env:=env) (e0:=eVar 0) (e1:=eVar 2) (e2:=eVar 3) k0 k2 k3 (by omega) (by omega) (by omega) (by omega)
 have e2:=ix2 hT (env:=env) (e0:=eVar 0) (e1:=eVar 3) (e2:=eVar 4) k0 k3 k4 (by omega) (by omega) (by omega) (by omega)
 have e3:=ix2 hT (env:=env) (e0:=eVar 0) k0 e1 k4 b1.1 b1.2 (by omega) (by omega)
 have e4:=ix2 hT (env:=env) (e0:=eVar 0) k0 k2 e2 (by omega) (by omega) b2.1 b2.2
 simp only [threeBody,sIf,tNe_int e3 e4,threeAt]
 cases hq:tg T (tg T (a:Int) (b:Int)) (c:Int) == tg T (a:Int) (tg T (b:Int) (c:Int)) with
 | true=>simp [sSkip]
 | false=>simp [sRet,eTup,evs,eC,k2,k3,k4]
theorem three_loop {T:List (List Int)} {n:Nat} (hT:Tab T n) {it:Lx} {env0:Env} (k0:eVar 0 env0=some (tabD T)) (hl:5≤env0.length)
  (hit:∀ env,Agr [2,3,4] env env0→it env=some (rangeD 0 n)) :
  (∀ r,threeOf T n=some r→∃ e1,sFor (gN 2) it (sFor (gN 3) it (sFor (gN 4) it threeBody)) env0=some (.rt r,e1)) ∧
  (threeOf T n=none→∃ e1,sFor (gN 2) it (sFor (gN 3) it (sFor (gN 4) it threeBody)) env0=some (.nx,e1)∧Agr [2,3,4] e1 env0):=by
 rw [sFor_of (hit env0 (Agr.refl _ _))]
 refine forL_find (fun env=>Agr [2,3,4] env env0) _ _ env0 (fun da hda env hA=>?_) (Agr.refl _ _)
 obtain ⟨a,ha,rfl⟩:=mem_rangeD hda
 refine ⟨_,rfl,?_⟩
 have A1:Agr [2,3,4] (env.set 2 (.sh (.int a))) env0:=hA.set (by simp) _
 have v2:eVar 2 (env.set 2 (.sh (.int a)))=some (.int a):=eVar_set (by rw [hA.len];omega)
 rw [sFor_of (hit _ A1)]
 have key:=forL_find (g:=gN 3) (b:=sFor (gN 4) it threeBody)
  (fun env=>Agr [2,3,4] env env0∧eVar 2 env=some (.int a)) (fun b=>(rangeD 0 n).findSome? fun c=>threeAt T (.int a) b c) (rangeD 0 n) (env.set 2 (.sh (.int a))) (fun db hdb env hB=>?_) ⟨A1,v2⟩
 ·exact ⟨key.1,fun h=>let ⟨e1,x,y⟩:=key.2 h;⟨e1,x,y.1⟩⟩
 obtain ⟨b,hb,rfl⟩:=mem_rangeD hdb
 obtain ⟨hB,w2⟩:=hB
 refine ⟨_,rfl,?_⟩
 have A2:Agr [2,3,4] (env.set 3 (.sh (.int b))) env0:=hB.set (by simp) _
 have v3:eVar 3 (env.set 3 (.sh (.int b)))=some (.int b):=eVar_set (by rw [hB.len];omega)
 have v2':eVar 2 (env.set 3 (.sh (.int b)))=some (.int a):=by rw [eVar_set_ne (by decide)];exact w2
 rw [sFor_of (hit _ A2)]
 have key:=forL_find (g:=gN 4) (b:=threeBody) (fun env=>Agr [2,3,4] env env0∧eVar 2 env=some (.int a)∧eVar 3 env=some (.int b)) (fun c=>threeAt T (.int a) (.int b) c) (rangeD 0 n)
  (env.set 3 (.sh (.int b))) (fun dc hdc env hC=>?_) ⟨A2,v2',v3⟩
 ·exact ⟨key.1,fun h=>let ⟨e1,x,y⟩:=key.2 h;⟨e1,x,y.1,y.2.1⟩⟩
 obtain ⟨c,hc,rfl⟩:=mem_rangeD hdc
 obtain ⟨hC,u2,u3⟩:=hC
 refine ⟨_,rfl,?_⟩
 have A3:Agr [2,3,4] (env.set 4 (.sh (.int c))) env0:=hC.set (by simp) _
 have v4:eVar 4 (env.set 4 (.sh (.int c)))=some (.int c):=eVar_set (by rw [hC.len];omega)
 have v2'':eVar 2 (env.set 4 (.sh (.int c)))=some (.int a):=by rw [eVar_set_ne (by decide)];exact u2
 have v3'':eVar 3 (env.set 4 (.sh (.int c)))=some (.int b):=by rw [eVar_set_ne (by decide)];exact u3
 have v0:eVar 0 (env.set 4 (.sh (.int c)))=some (tabD T):=by rw [A3.var (by decide)];exact k0
 have tb:=three_body hT ha hb hc v0 v2'' v3'' v4
 refine ⟨fun r hr=>?_,fun hn=>?_⟩
 ·rw [hr] at tb;exact ⟨_,tb⟩
 ·rw [hn] at tb;exact ⟨_,tb,A3,v2'',v3''⟩
theorem find_three_eq {T:List (List Int)} {n:Nat} (hT:Tab T n):φ_find_three [tabD T]=some ((threeOf T n).getD .non):=by
 have e:sSet 1 (eF1 fLen (eVar 0)) (enter 5 [tabD T])=some (.nx,[Sl.sh (tabD T),Sl.sh (.int n),Sl.un,Sl.un,Sl.un]):=by
  rw [sSet_of (eF1_of rfl |>.trans (fLen_tab T)),hT.len];rfl
 have key:=three_loop hT (it:=iRng (eVar 1)) (env0:=[Sl.sh (tabD T),Sl.sh (.int n),Sl.un,Sl.un,Sl.un]) rfl (by simp) fun env hA=>iRng_of (by rw [hA.var (by decide)];rfl) (by have:=hT.top;omega)
 unfold threeBody at key
 cases h:threeOf T n with
 | some r =>
  obtain ⟨e1,x⟩:=key.1 r h
  exact run_rt rfl ((sSeq_nx e).trans (sSeq_rt x))
 | none =>
  obtain ⟨e1,x,hA⟩:=key.2 h
  exact run_rt rfl ((sSeq_nx e).trans ((sSeq_nx x).trans (sRet_of rfl)))
def restAt (T:List (List Int)) (n:Nat) (e:Int):Bool:=(List.range n).all fun a=>tg T e a == a && tg T a e == a
def intOf:D→Int
 | .int i=>i
 | _=>0
def restOf (T:List (List Int)) (n:Nat):Option D:=(rangeD 0 n).findSome? fun d=>if restAt T n (intOf d) then some d else none
theorem all_rangeD {n:Nat} {p:D→Bool}:(rangeD 0 n).all p=(List.range n).all fun k=>p (.int k):=by
 simp only [rangeD,List.all_map]
 congr 1
 funext k
 simp
theorem rest_test {T:List (List Int)} {n:Nat} (hT:Tab T n) {it:Lx} {env:Env} {ie ia:Nat} (hne:ia≠ie) (hne0:ia≠0) (hl:ia < env.length) (hit:it env=some (rangeD 0 n)) (k0:eVar 0 env=some (tabD T)) {e:Nat} (he:e < n) (ke:eVar ie env=some (.int e)) :
  tB (eF1 fAll (eComp ia it tTrue (eB (tAnd (tEq (eIx (eIx (eVar 0) (eVar ie)) (eVar ia)) (eVar ia)) (tEq (eIx (eIx (eVar 0) (eVar ia)) (eVar ie)) (eVar ia)))))) env=some (restAt T n e):=by
 have hn:n≤lim:=by have:=hT.top;rw [lim_eq];omega
 have hc:=compL_map (i:=ia) (e:=eB (tAnd (tEq (eIx (eIx (eVar 0) (eVar ie)) (eVar ia)) (eVar ia)) (tEq (eIx (eIx (eVar 0) (eVar ia)) (eVar ie)) (eVar ia)))) (env:=env)
  (fun d=>.bl (tg T e (intOf d) == intOf d && tg T (intOf d) e == intOf d)) (rangeD 0 n) (fun d hd=>by
   obtain ⟨a,ha,rfl⟩:=mem_rangeD hd
   have v0:eVar 0 (env.set ia (.sh (.int a)))=some (tabD T):=by rw [eVar_set_ne hne0];exact k0
   have ve:eVar ie (env.set ia (.sh (.int a)))=some (.int e):=by rw [eVar_set_ne hne];exact ke
   have va:eVar ia (env.set ia (.sh (.int a)))=some (.int a):=eVar_set hl
   have e1:=ix2 hT v0 ve va (by omega) (by omega) (by omega) (by omega)
   have e2:=ix2 hT v0 va ve (by omega) (by omega) (by omega) (by omega)
   simp only [eB,tAnd,tEq_int e1 va,tEq_int e2 va,intOf]
   cases tg T (e:Int) (a:Int) == (a:Int) <;> simp)
 simp only [tB,eF1,eComp,hit,rangeD_length,hn,if_true,hc,fAll,allB_map,all_rangeD,restAt,intOf]
theorem find_rest_eq {T:List (List Int)} {n:Nat} (hT:Tab T n):φ_find_rest [tabD T]=some ((restOf T n).getD .non):=by
 have e:sSet 1 (eF1 fLen (eVar 0)) (enter 4 [tabD T])=some (.nx,[Sl.sh (tabD T),Sl.sh (.int n),Sl.un,Sl.un]):=by
  rw [sSet_of (eF1_of rfl |>.trans (fLen_tab T)),hT.len];rfl
 have i1:∀ env,Agr [2] env [Sl.sh (tabD T),Sl.sh (.int n),Sl.un,Sl.un]→iRng (eVar 1) env=some (rangeD 0 n):=fun env hA=>iRng_of (by rw [hA.var (by decide)];rfl) (by have:=hT.top;omega)
 have key:=forL_find (g:=gN 2) (b:=sIf (tB (eF1 fAll (eComp 3 (iRng (eVar 1)) tTrue (eB (tAnd (tEq (eIx (eIx (eVar 0) (eVar 2)) (eVar 3)) (eVar 3)) (tEq (eIx (eIx (eVar 0) (eVar 3)) (eVar 2)) (eVar 3))))))) (sRet (eVar 2)) sSkip)
  (fun env=>Agr [2] env [Sl.sh (tabD T),Sl.sh (.int n),Sl.un,Sl.un]) (fun d=>if restAt T n (intOf d) then some d else none) (rangeD 0 n) [Sl.sh (tabD T),Sl.sh (.int n),Sl.un,Sl.un] (fun d hd env hA=>by
   obtain ⟨a,ha,rfl⟩:=mem_rangeD hd
   refine ⟨_,rfl,?_⟩
   have A1:Agr [2] (env.set 2 (.sh (.int a))) [Sl.sh (tabD T),Sl.sh (.int n),Sl.un,Sl.un]:=hA.set (by simp) _
   have v2:eVar 2 (env.set 2 (.sh (.int a)))=some (.int a):=eVar_set (by rw [hA.len];simp)
   have tst:=rest_test hT (it:=iRng (eVar 1)) (env:=env.set 2 (.sh (.int a))) (ie:=2) (ia:=3) (by decide) (by decide) (by rw [A1.len];simp) (i1 _ A1) (by rw [A1.var (by decide)];rfl) ha v2
   by_cases hq:restAt T n (a:Int)=true
   ·rw [hq] at tst
    rw [sIf_tt tst,sRet_of v2]
    simp [intOf,hq]
   ·rw [Bool.not_eq_true] at hq
    rw [hq] at tst
    rw [sIf_ff tst]
    simp [intOf,hq,sSkip,A1]) (Agr.refl _ _)
 have hi:=i1 _ (Agr.refl _ _)
 rw [← sFor_of (g:=gN 2) hi] at key
 unfold restOf
 cases h:(rangeD 0 n).findSome? fun d=>if restAt T n (intOf d) then some d else none with
 | some r =>
  obtain ⟨e1,x⟩:=key.1 r h
  exact run_rt rfl ((sSeq_nx e).trans (sSeq_rt x))
 | none =>
  obtain ⟨e1,x,hA⟩:=key.2 h
  exact run_rt rfl ((sSeq_nx e).trans ((sSeq_nx x).trans (sRet_of rfl)))
end PV
namespace PV
open PySem (Str)
def backAt (T:List (List Int)) (s e b:Int):Bool:=tg T e b == s && tg T b e == s
def backOf (T:List (List Int)) (n:Nat) (s e:Int):Option D:=(rangeD 0 n).findSome? fun d=>if backAt T s e (intOf d) then some d else none
theorem eF1_len {T:List (List Int)} {n:Nat} (hT:Tab T n) {env:Env} {e:Ex} (h:e env=some (tabD T)):eF1 fLen e env=some (.int n):=by rw [eF1_of h,fLen_tab,hT.len]
theorem Tab.le {T:List (List Int)} {n:Nat} (h:Tab T n):n≤1000:=by have:=h.top;omega
theorem back_test {T:List (List Int)} {n:Nat} (hT:Tab T n) {env:Env} {e0 ee es eb:Ex} (k0:e0 env=some (tabD T)) {e b:Nat} {s:Int} (he:e < n) (hb:b < n) (ke:ee env=some (.int e)) (ks:es env=some (.int s)) (kb:eb env=some (.int b)) :
  tAnd (tEq (eIx (eIx e0 ee) eb) es) (tEq (eIx (eIx e0 eb) ee) es) env=some (backAt T s e b):=by
 have e1:=ix2 hT k0 ke kb (by omega) (by omega) (by omega) (by omega)
 have e2:=ix2 hT k0 kb ke (by omega) (by omega) (by omega) (by omega)
 simp only [tAnd,tEq_int e1 ks,tEq_int e2 ks,backAt]
 cases tg T (e:Int) (b:Int) == s <;> simp
theorem find_back_eq {T:List (List Int)} {n:Nat} (hT:Tab T n) {s e:Nat} (he:e < n):φ_find_back [tabD T,.int s,.int e]=some ((backOf T n s e).getD .non):=by
 have i1:iRng (eF1 fLen (eVar 0)) (enter 4 [tabD T,.int s,.int e])=some (rangeD 0 n):=iRng_of (eF1_len hT rfl) hT.le
 have key:=forL_find (g:=gN 3) (b:=sIf (tAnd (tEq (eIx (eIx (eVar 0) (eVar 2)) (eVar 3)) (eVar 1)) (tEq (eIx (eIx (eVar 0) (eVar 3)) (eVar 2)) (eVar 1))) (sRet (eVar 3)) sSkip)
  (fun env=>Agr [3] env (enter 4 [tabD T,.int s,.int e])) (fun d=>if backAt T s e (intOf d) then some d else none) (rangeD 0 n) (enter 4 [tabD T,.int s,.int e]) (fun d hd env hA=>by
   obtain ⟨b,hb,rfl⟩:=mem_rangeD hd
   refine ⟨_,rfl,?_⟩
   have A1:Agr [3] (env.set 3 (.sh (.int b))) (enter 4 [tabD T,.int s,.int e]):=hA.set (by simp) _
   have v3:eVar 3 (env.set 3 (.sh (.int b)))=some (.int b):=eVar_set (by rw [hA.len];simp [enter])
   have tst:=back_test hT (env:=env.set 3 (.sh (.int b))) (e0:=eVar 0) (ee:=eVar 2) (es:=eVar 1) (eb:=eVar 3) (s:=s) (by rw [A1.var (by decide)];rfl) he hb (by rw [A1.var (by decide)];rfl) (by rw [A1.var (by decide)];rfl) v3
   by_cases hq:backAt T s e (b:Int)=true
   ·rw [hq] at tst
    rw [sIf_tt tst,sRet_of v3]
    simp [intOf,hq]
   ·rw [Bool.not_eq_true] at hq
    rw [hq] at tst
    rw [sIf_ff tst]
    simp [intOf,hq,sSkip,A1]) (Agr.refl _ _)
 rw [← sFor_of (g:=gN 3) i1] at key
 unfold backOf
 cases h:(rangeD 0 n).findSome? fun d=>if backAt T s e (intOf d) then some d else none with
 | some r =>
  obtain ⟨e1,x⟩:=key.1 r h
  exact run_rt rfl (sSeq_rt x)
 | none =>
  obtain ⟨e1,x,hA⟩:=key.2 h
  exact run_rt rfl ((sSeq_nx x).trans (sRet_of rfl))
def backsOf (T:List (List Int)) (n:Nat) (s:Int):Option D:=(rangeD 0 n).findSome? fun d=>if (backOf T n s (intOf d)).isSome then none else some (.tup [.str "back",d])
def flawOf (T:List (List Int)) (n:Nat):D:=match threeOf T n with
 | some r=>r
 | none=>match restOf T n with
  | none=>.tup [.str "rest"]
  | some r=>(backsOf T n (intOf r)).getD .non
theorem findSome_mem {α β:Type} {q:α→Option β} {ds:List α} {r:β} (h:ds.findSome? q=some r):∃ d ∈ ds,q d=some r:=by
 induction ds with
 | nil=>simp at h
 | cons d ds ih =>
  rw [List.findSome?_cons] at h
  cases hq:q d with
  | some x=>rw [hq] at h;cases h;exact ⟨d,List.mem_cons_self,hq⟩
  | none=>rw [hq] at h;obtain ⟨d',h1,h2⟩:=ih h;exact ⟨d',List.mem_cons_of_mem _ h1,h2⟩
theorem threeOf_shape {T:List (List Int)} {n:Nat} {r:D} (h:threeOf T n=some r):∃ a b c:Nat,r=.tup [.str "three",.int a,.int b,.int c]:=by
 obtain ⟨da,ha,h⟩:=findSome_mem h
 obtain ⟨db,hb,h⟩:=findSome_mem h
 obtain ⟨dc,hc,h⟩:=findSome_mem h
 obtain ⟨a,_,rfl⟩:=mem_rangeD ha
 obtain ⟨b,_,rfl⟩:=mem_rangeD hb
 obtain ⟨c,_,rfl⟩:=mem_rangeD hc
 simp only [threeAt] at h
 by_cases hq:(tg T (tg T (a:Int) (b:Int)) (c:Int) == tg T (a:Int) (tg T (b:Int) (c:Int)))=true
 ·rw [if_pos hq] at h;cases h
 ·rw [if_neg hq] at h;cases h;exact ⟨a,b,c,rfl⟩
theorem restOf_shape {T:List (List Int)} {n:Nat} {r:D} (h:restOf T n=some r):∃ s:Nat,s < n∧r=.int s∧restAt T n s=true:=by
 obtain ⟨d,hd,h⟩:=findSome_mem h
 obtain ⟨s,hs,rfl⟩:=mem_rangeD hd
 by_cases hq:restAt T n (s:Int)=true
 ·simp [intOf,hq] at h;exact ⟨s,hs,h.symm,hq⟩
 ·simp [intOf,hq] at h
theorem backOf_shape {T:List (List Int)} {n:Nat} {s e:Int} {r:D} (h:backOf T n s e=some r):∃ b:Nat,b < n∧r=.int b∧backAt T s e b=true:=by
 obtain ⟨d,hd,h⟩:=findSome_mem h
 obtain ⟨b,hb,rfl⟩:=mem_rangeD hd
 by_cases hq:backAt T s e (b:Int)=true
 ·simp [intOf,hq] at h;exact ⟨b,hb,h.symm,hq⟩
 ·simp [intOf,hq] at h
theorem tIsN_of {e:Ex} {env:Env} {x:D} (h:e env=some x):tIsN e env=some x.isN:=by simp [tIsN,h]
theorem tNoN_of {e:Ex} {env:Env} {x:D} (h:e env=some x):tNoN e env=some (!x.isN):=by simp [tNoN,h]
theorem find_flaw_eq {T:List (List Int)} {n:Nat} (hT:Tab T n):φ_find_flaw [tabD T]=some (flawOf T n):=by
 have s1:sSet 1 (eCall φ_find_three [(eVar 0)]) (enter 4 [tabD T])=some (.nx,[.sh (tabD T),.sh ((threeOf T n).getD .non),.un,.un]):=by
  rw [sSet_of ((eCall1 rfl).trans (find_three_eq hT))];rfl
 cases h3:threeOf T n with
 | some r =>
  rw [h3,Option.getD_some] at s1
  obtain ⟨a,b,c,rfl⟩:=threeOf_shape h3
  have e:flawOf T n=.tup [.str "three",.int a,.int b,.int c]:=by simp only [flawOf,h3]
  rw [e]
  exact run_rt rfl ((sSeq_nx s1).trans (sSeq_rt ((sIf_tt rfl).trans (sRet_of rfl))))
 | none =>
  rw [h3,Option.getD_none] at s1
  have s2:sSet 2 (eCall φ_find_rest [(eVar 0)]) [.sh (tabD T),.sh .non,.un,.un]=some (.nx,[.sh (tabD T),.sh .non,.sh ((restOf T n).getD .non),.un]):=by
   rw [sSet_of ((eCall1 rfl).trans (find_rest_eq hT))];rfl
  cases h2:restOf T n with
  | none =>
   rw [h2,Option.getD_none] at s2
   have e:flawOf T n=.tup [.str "rest"]:=by simp only [flawOf,h3,h2]
   rw [e]
   exact run_rt rfl ((sSeq_nx s1).trans ((sSeq_nx ((sIf_ff rfl).trans sSkip_of)).trans ((sSeq_nx s2).trans (sSeq_rt ((sIf_tt rfl).trans (sRet_of rfl))))))
  | some r =>
   obtain ⟨s,hs,rfl,_⟩:=restOf_shape h2
   rw [h2,Option.getD_some] at s2
   have e:flawOf T n=(backsOf T n s).getD .non:=by simp only [flawOf,h3,h2,intOf]
   rw [e]
   have i1:iRng (eF1 fLen (eVar 0)) [.sh (tabD T),.sh .non,.sh (.int s),.un]=some (rangeD 0 n):=iRng_of (eF1_len hT rfl) hT.le
   have key:=forL_find (g:=gN 3) (b:=sIf (tIsN (eCall φ_find_back [(eVar 0),(eVar 2),(eVar 3)])) (sRet (eTup [(eC (.str "back")),(eVar 3)])) sSkip)
    (fun env=>Agr [3] env [.sh (tabD T),.sh .non,.sh (.int s),.un]) (fun d=>if (backOf T n s (intOf d)).isSome then none else some (.tup [.str "back",d])) (rangeD 0 n) [.sh (tabD T),.sh .non,.sh (.int s),.un] (fun d hd env hA=>by
     obtain ⟨b,hb,rfl⟩:=mem_rangeD hd
     refine ⟨_,rfl,?_⟩
     have A1:Agr [3] (env.set 3 (.sh (.int b))) [.sh (tabD T),.sh .non,.sh (.int s),.un]:=hA.set (by simp) _
     have v3:eVar 3 (env.set 3 (.sh (.int b)))=some (.int b):=eVar_set (by rw [hA.len];simp)
     have v0:eVar 0 (env.set 3 (.sh (.int b)))=some (tabD T):=by rw [A1.var (by decide)];rfl
     have v2:eVar 2 (env.set 3 (.sh (.int b)))=some (.int s):=by rw [A1.var (by decide)];rfl
     have tst:=tIsN_of ((eCall3 v0 v2 v3).trans (find_back_eq hT hb))
     cases hq:backOf T n s (b:Int) with
     | none =>
      rw [hq] at tst
      rw [sIf_tt tst,sRet_of (show eTup [(eC (.str "back")),(eVar 3)] _=some (.tup [.str "back",.int b]) by simp [eTup,evs,eC,v3])]
      simp [intOf,hq]
     | some r =>
      obtain ⟨b',_,rfl,_⟩:=backOf_shape hq
      rw [hq] at tst
      rw [sIf_ff tst]
      simp [intOf,hq,sSkip,A1]) (Agr.refl _ _)
   rw [← sFor_of (g:=gN 3) i1] at key
   unfold backsOf
   cases h:(rangeD 0 n).findSome? fun d=>if (backOf T n s (intOf d)).isSome then none else some (D.tup [.str "back",d]) with
   | some r =>
    obtain ⟨e1,x⟩:=key.1 r h
    exact run_rt rfl ((sSeq_nx s1).trans ((sSeq_nx ((sIf_ff rfl).trans sSkip_of)).trans ((sSeq_nx s2).trans ((sSeq_nx ((sIf_ff rfl).trans sSkip_of)).trans (sSeq_rt x)))))
   | none =>
    obtain ⟨e1,x,hA⟩:=key.2 h
    exact run_rt rfl ((sSeq_nx s1).trans ((sSeq_nx ((sIf_ff rfl).trans sSkip_of)).trans ((sSeq_nx s2).trans ((sSeq_nx ((sIf_ff rfl).trans sSkip_of)).trans ((sSeq_nx x).trans (sRet_of rfl))))))
end PV
namespace PV
open PySem (Str)
theorem is_element_eq {T:List (List Int)} {n:Nat} (hT:Tab T n) (x:Int):φ_is_element [tabD T,.int x]=some (.bl (decide (0≤x) && decide (x < n))):=by
 refine run_rt rfl (sRet_of ?_)
 have h1:t2I pGe (eVar 1) (eC (.int 0)) (enter 2 [tabD T,.int x])=some (decide (0≤x)):=rfl
 have h2:t2I pLt (eVar 1) (eF1 fLen (eVar 0)) (enter 2 [tabD T,.int x])=some (decide (x < n)):=by
  simp only [t2I,eF1_len hT (show eVar 0 (enter 2 [tabD T,.int x])=some (tabD T) from rfl)]
  rfl
 simp only [eB,tAnd,h1,h2]
 cases decide (0≤x) <;> simp
theorem iOf_lst {e:Ex} {env:Env} {xs:List D} (h:e env=some (.lst xs)):iOf e env=some xs:=by simp [iOf,h]
theorem iOf_tab {T:List (List Int)} {e:Ex} {env:Env} (h:e env=some (tabD T)):iOf e env=some (T.map rowD):=iOf_lst h
theorem iOf_row {r:List Int} {e:Ex} {env:Env} (h:e env=some (rowD r)):iOf e env=some (r.map .int):=iOf_lst h
theorem ask_table_eq {T:List (List Int)} {n:Nat} (hT:Tab T n):φ_ask_table [tabD T]=some .non:=by
 have e:sSet 1 (eF1 fLen (eVar 0)) (enter 4 [tabD T])=some (.nx,[Sl.sh (tabD T),Sl.sh (.int n),Sl.un,Sl.un]):=by
  rw [sSet_of (eF1_len hT rfl)];rfl
 have t1:tOr (t2I pLt (eVar 1) (eC (.int 1))) (t2I pGt (eVar 1) (eC (.int 12))) [Sl.sh (tabD T),Sl.sh (.int n),Sl.un,Sl.un]=some false:=by
  have h1:t2I pLt (eVar 1) (eC (.int 1)) [Sl.sh (tabD T),Sl.sh (.int n),Sl.un,Sl.un]=some (decide ((n:Int) < 1)):=rfl
  have h2:t2I pGt (eVar 1) (eC (.int 12)) [Sl.sh (tabD T),Sl.sh (.int n),Sl.un,Sl.un]=some (decide (12 < (n:Int))):=rfl
  have p1:=hT.pos
  have p2:=hT.top
  rw [decide_eq_false (by omega)] at h1 h2
  simp only [tOr,h1,h2]
 have key:=forL_run (g:=gN 2) (ds:=T.map rowD) (b:=sSeq (sIf (tNe (eF1 fLen (eVar 2)) (eVar 1)) (sNever) sSkip) (sIf (tNot (tB (eF1 fAll (eComp 3 (iOf (eVar 2)) tTrue (eCall φ_is_element [(eVar 0),(eVar 3)]))))) (sNever) sSkip))
  (fun _ env=>Agr [2] env [Sl.sh (tabD T),Sl.sh (.int n),Sl.un,Sl.un]) (fun k d env hd hA=>by
   rw [List.getElem?_map] at hd
   cases hr:T[k]? with
   | none=>rw [hr] at hd;cases hd
   | some r =>
    rw [hr] at hd
    have hd':rowD r=d:=by simpa using hd
    subst hd'
    have hm:r ∈ T:=List.mem_of_getElem? hr
    have A1:Agr [2] (env.set 2 (.sh (rowD r))) [Sl.sh (tabD T),Sl.sh (.int n),Sl.un,Sl.un]:=hA.set (by simp) _
    have v2:eVar 2 (env.set 2 (.sh (rowD r)))=some (rowD r):=eVar_set (by rw [hA.len];simp)
    have v1:eVar 1 (env.set 2 (.sh (rowD r)))=some (.int n):=by rw [A1.var (by decide)];rfl
    have v0:eVar 0 (env.set 2 (.sh (rowD r)))=some (tabD T):=by rw [A1.var (by decide)];rfl
    have t2:tNe (eF1 fLen (eVar 2)) (eVar 1) (env.set 2 (.sh (rowD r)))=some false:=by
     rw [tNe_int (i:=r.length) (j:=n) ((eF1_of v2).trans (fLen_row r)) v1,hT.row r hm]
     simp
    have hlen:(r.map D.int).length≤lim:=by rw [List.length_map,hT.row r hm,lim_eq];have:=hT.top;omega
    have hc:=compL_map (i:=3) (e:=eCall φ_is_element [(eVar 0),(eVar 3)]) (env:=env.set 2 (.sh (rowD r))) (fun d=>.bl (decide (0≤intOf d) && decide (intOf d < n))) (r.map .int) (fun d hd=>by
     obtain ⟨x,hx,rfl⟩:=List.mem_map.mp hd
     refine (eCall2 (x:=tabD T) (y:=.int x) ?_ ?_).trans (is_element_eq hT x)
     ·rw [eVar_set_ne (by decide)];exact v0
     ·exact eVar_set (by rw [A1.len];simp))
    have t3:tNot (tB (eF1 fAll (eComp 3 (iOf (eVar 2)) tTrue (eCall φ_is_element [(eVar 0),(eVar 3)])))) (env.set 2 (.sh (rowD r)))=some false:=by
     have ha:(r.map D.int).all (fun d=>decide (0≤intOf d) && decide (intOf d < (n:Int)))=true:=by
      rw [List.all_eq_true]
      intro d hd
      obtain ⟨x,hx,rfl⟩:=List.mem_map.mp hd
      have:=hT.ent r hm x hx
      simp [intOf,this.1,this.2]
     simp only [tNot,tB,eF1,eComp,iOf_row v2,hlen,if_true,hc,fAll,allB_map,ha]
     rfl
    refine ⟨_,_,rfl,(sSeq_nx ((sIf_ff t2).trans sSkip_of)).trans ((sIf_ff t3).trans sSkip_of),A1⟩) [Sl.sh (tabD T),Sl.sh (.int n),Sl.un,Sl.un] (Agr.refl _ _)
 obtain ⟨e1,x,_⟩:=key
 rw [← sFor_of (it:=iOf (eVar 0)) (iOf_tab (T:=T) rfl)] at x
 exact run_nx rfl ((sSeq_nx e).trans ((sSeq_nx ((sIf_ff t1).trans sSkip_of)).trans x))
theorem flaw_eq {T:List (List Int)} {n:Nat} (hT:Tab T n):φ_flaw [tabD T]=some (flawOf T n):=by
 have s1:sDo (eCall φ_ask_table [(eVar 0)]) (enter 1 [tabD T])=some (.nx,enter 1 [tabD T]):=sDo_of ((eCall1 rfl).trans (ask_table_eq hT))
 exact run_rt rfl ((sSeq_nx s1).trans (sRet_of ((eCall1 rfl).trans (find_flaw_eq hT))))
end PV
namespace PV
open PySem (Str)
def cellV (ns:List Int) (k:Nat):Int:=ns.getD k 0
theorem law_cell_at_eq (ns:List Int) (k:Nat):φ_law_cell_at [rowD ns,.int k]=some (.int (cellV ns k)):=by
 have t1:t2I pLt (eVar 1) (eF1 fLen (eVar 0)) (enter 2 [rowD ns,.int k])=some (decide ((k:Int) < ns.length)):=by
  have h:eF1 fLen (eVar 0) (enter 2 [rowD ns,.int k])=some (.int ns.length):=(eF1_of (x:=rowD ns) rfl).trans (fLen_row ns)
  simp only [t2I,h];rfl
 by_cases hk:(k:Int) < ns.length
 ·rw [decide_eq_true hk] at t1
  refine run_rt rfl (sSeq_rt ((sIf_tt t1).trans (sRet_of ?_)))
  show fIx (rowD ns) (.int k)=_
  rw [fIx_row (by omega) hk]
  simp [cellV]
 ·rw [decide_eq_false hk] at t1
  have e:cellV ns k=0:=by unfold cellV;rw [List.getD_eq_getElem?_getD,List.getElem?_eq_none (by omega)];rfl
  rw [e]
  exact run_rt rfl ((sSeq_nx ((sIf_ff t1).trans sSkip_of)).trans (sRet_of rfl))
theorem e2I_of {f:Int→Int→Option D} {a b:Ex} {env:Env} {i j:Int} (h1:a env=some (.int i)) (h2:b env=some (.int j)):e2I f a b env=f i j:=by simp [e2I,h1,h2]
theorem iMod_of {i j:Int} (h:0 < j):iMod i j=some (.int (i % j)):=by unfold iMod;rw [if_pos h]
theorem iDiv_of {i j:Int} (h:0 < j) (h2:j < 1073741824):iDiv i j=some (.int (i / j)):=by unfold iDiv;rw [if_pos ⟨h,h2⟩]
theorem iMul_l {i j:Int} (h:-18446744073709551616 < i) (h2:i < 18446744073709551616):iMul i j=some (.int (i * j)):=by unfold iMul;rw [if_pos (.inl ⟨h,h2⟩)]
theorem iMul_r {i j:Int} (h:-18446744073709551616 < j) (h2:j < 18446744073709551616):iMul i j=some (.int (i * j)):=by unfold iMul;rw [if_pos (.inr ⟨h,h2⟩)]
theorem eAdd_int {a b:Ex} {env:Env} {i j:Int} (h1:a env=some (.int i)) (h2:b env=some (.int j)):eAdd a b env=some (.int (i + j)):=by simp [eAdd,eF2,h1,h2,fAdd]
theorem law_draw_ex (c : Int) (k : Nat) (bound : Int) (hk : k ≤ 1000) (hb : 0 < bound) (hb2 : bound ≤ 12) : ∃ r : Int, φ_law_draw [.int c, .int k, .int bound] = some (.int r) ∧ 0 ≤ r ∧ r < bound := by
  have t1 : tEq (e2I iMod (eVar 0) (eC (.int 2))) (eC (.int 0)) (enter 6 [.int c, .int k, .int bound]) = some (c % 2 == 0) :=
    tEq_int ((e2I_of (i := c) (j := 2) rfl rfl).trans (iMod_of (by decide))) rfl
  by_cases h2 : (c % 2 == 0) = true
  · rw [h2] at t1
    have s1 : sSet 3 (e2I iDiv (eVar 0) (eC (.int 2))) (enter 6 [.int c, .int k, .int bound]) = some (.nx, [.sh (.int c), .sh (.int k), .sh (.int bound), .sh (.int (c / 2)), .un, .un]) := by
      rw [sSet_of ((e2I_of (i := c) (j := 2) rfl rfl).trans (iDiv_of (by decide) (by decide)))]; rfl
    have key := forL_run (g := gN 4) (ds := rangeD 0 k) (b := sSet 3 (e2I iDiv (eVar 3) (eVar 2))) (fun _ env => Agr [3, 4] env [.sh (.int c), .sh (.int k), .sh (.int bound), .sh (.int (c / 2)), .un, .un] ∧ ∃ l : Int, eVar 3 env = some (.int l))
      (fun j d env hd ⟨hA, l, hl⟩ => by
        have A1 : Agr [3, 4] (env.set 4 (.sh d)) [.sh (.int c), .sh (.int k), .sh (.int bound), .sh (.int (c / 2)), .un, .un] := hA.set (by simp) _
        have v3 : eVar 3 (env.set 4 (.sh d)) = some (.int l) := by rw [eVar_set_ne (by decide)]; exact hl
        have v2 : eVar 2 (env.set 4 (.sh d)) = some (.int bound) := by rw [A1.var (by decide)]; rfl
        refine ⟨_, _, rfl, sSet_of ((e2I_of v3 v2).trans (iDiv_of hb (by omega))), A1.set (by simp) _, _, eVar_set (by rw [A1.len]; simp)⟩)
      [.sh (.int c), .sh (.int k), .sh (.int bound), .sh (.int (c / 2)), .un, .un] ⟨Agr.refl _ _, _, rfl⟩
    obtain ⟨e1, x, hA, l, hl⟩ := key
    rw [← sFor_of (it := iRng (eVar 1)) (iRng_of rfl hk)] at x
    have v2 : eVar 2 e1 = some (.int bound) := by rw [hA.var (by decide)]; rfl
    refine ⟨l % bound, run_rt rfl (sSeq_rt ((sIf_tt t1).trans ((sSeq_nx s1).trans ((sSeq_nx x).trans (sRet_of ((e2I_of hl v2).trans (iMod_of hb))))))), Int.emod_nonneg _ (by omega), Int.emod_lt_of_pos _ hb⟩
  · rw [Bool.not_eq_true] at h2
    rw [h2] at t1
    let q1 : Int := (c % 2147483647 + 977 * k + 1) * 48271 % 2147483647
    have m0 := Int.emod_nonneg c (show (2147483647 : Int) ≠ 0 by decide)
    have m0' := Int.emod_lt_of_pos c (show (0 : Int) < 2147483647 by decide)
    have n1 : 0 ≤ q1 := Int.emod_nonneg _ (by decide)
    have n1' : q1 < 2147483647 := Int.emod_lt_of_pos _ (by decide)
    let q2 : Int := q1 * q1 % 2147483629
    have n2 : 0 ≤ q2 := Int.emod_nonneg _ (by decide)
    have n2' : q2 < 2147483629 := Int.emod_lt_of_pos _ (by decide)
    let q3 : Int := (q2 + 40692 * (k + 3)) * 69621 % 2147483647
    have n3 : 0 ≤ q3 := Int.emod_nonneg _ (by decide)
    have s1 : sSet 5 (e2I iMod (e2I iMul (eAdd (eAdd (e2I iMod (eVar 0) (eC (.int 2147483647))) (e2I iMul (eC (.int 977)) (eVar 1))) (eC (.int 1))) (eC (.int 48271))) (eC (.int 2147483647))) (enter 6 [.int c, .int k, .int bound]) =
        some (.nx, [.sh (.int c), .sh (.int k), .sh (.int bound), .un, .un, .sh (.int q1)]) := by
      rw [sSet_of ((e2I_of ((e2I_of (eAdd_int (eAdd_int ((e2I_of (i := c) (j := 2147483647) rfl rfl).trans (iMod_of (by decide))) ((e2I_of (i := 977) (j := k) rfl rfl).trans (iMul_l (by decide) (by decide)))) rfl) rfl).trans (iMul_r (j := 48271) (by decide) (by decide))) rfl).trans (iMod_of (by decide)))]
      rfl
    have s2 : sSet 5 (e2I iMod (e2I iMul (eVar 5) (eVar 5)) (eC (.int 2147483629))) [.sh (.int c), .sh (.int k), .sh (.int bound), .un, .un, .sh (.int q1)] =
        some (.nx, [.sh (.int c), .sh (.int k), .sh (.int bound), .un, .un, .sh (.int q2)]) := by
      rw [sSet_of ((e2I_of ((e2I_of (i := q1) (j := q1) rfl rfl).trans (iMul_l (by omega) (by omega))) rfl).trans (iMod_of (by decide)))]
      rfl
    have s3 : sSet 5 (e2I iMod (e2I iMul (eAdd (eVar 5) (e2I iMul (eC (.int 40692)) (eAdd (eVar 1) (eC (.int 3))))) (eC (.int 69621))) (eC (.int 2147483647))) [.sh (.int c), .sh (.int k), .sh (.int bound), .un, .un, .sh (.int q2)] =
        some (.nx, [.sh (.int c), .sh (.int k), .sh (.int bound), .un, .un, .sh (.int q3)]) := by
      rw [sSet_of ((e2I_of ((e2I_of (eAdd_int (i := q2) rfl ((e2I_of (i := 40692) rfl (eAdd_int (i := k) (j := 3) rfl rfl)).trans (iMul_l (by decide) (by decide)))) rfl).trans (iMul_r (j := 69621) (by decide) (by decide))) rfl).trans (iMod_of (by decide)))]
      rfl
    refine ⟨q3 / 8 % bound, run_rt rfl ((sSeq_nx ((sIf_ff t1).trans sSkip_of)).trans ((sSeq_nx s1).trans ((sSeq_nx s2).trans ((sSeq_nx s3).trans (sRet_of ((e2I_of ((e2I_of (i := q3) (j := 8) rfl rfl).trans (iDiv_of (by decide) (by decide))) rfl).trans (iMod_of hb))))))),
      Int.emod_nonneg _ (by omega), Int.emod_lt_of_pos _ hb⟩
end PV
namespace PV
open PySem (Str)
structure Prm (nm:List Int) (n:Nat):Prop where
 len:nm.length=n
 nd:nm.Nodup
 bd:∀ x ∈ nm,0≤x∧x < n
def at1 (nm:List Int) (k:Int):Int:=nm.getD k.toNat 0
theorem at1_mem {nm:List Int} {k:Int} (h0:0≤k) (h1:k < nm.length):at1 nm k ∈ nm:=by
 have hk:k.toNat < nm.length:=by omega
 unfold at1
 rw [List.getD_eq_getElem?_getD,List.getElem?_eq_getElem hk]
 exact List.getElem_mem hk
theorem Prm.at {nm:List Int} {n:Nat} (h:Prm nm n) {k:Int} (h0:0≤k) (h1:k < n):0≤at1 nm k∧at1 nm k < n:=h.bd _ (at1_mem h0 (by rw [h.len];exact h1))
theorem Prm.inj {nm:List Int} {n:Nat} (h:Prm nm n) {a b:Int} (a0:0≤a) (a1:a < n) (b0:0≤b) (b1:b < n) (e:at1 nm a=at1 nm b):a=b:=by
 have hl:=h.len
 have ha:a.toNat < nm.length:=by omega
 have hb:b.toNat < nm.length:=by omega
 unfold at1 at e
 rw [List.getD_eq_getElem?_getD,List.getD_eq_getElem?_getD,List.getElem?_eq_getElem ha,List.getElem?_eq_getElem hb] at e
 have:=(List.getElem_inj h.nd).mp (show nm[a.toNat]=nm[b.toNat] from e)
 omega
theorem mem_insertIdx' {α:Type} {x y:α}:∀ {nm:List α} {j:Nat},y ∈ nm.insertIdx j x→y=x∨y ∈ nm
 | nm,0,h=>by rw [List.insertIdx_zero] at h;exact List.mem_cons.mp h
 | [],j + 1,h=>by simp at h
 | z::nm,j + 1,h=>by
  rw [List.insertIdx_succ_cons] at h
  rcases List.mem_cons.mp h with e | e
  ·exact .inr (by rw [e];exact List.mem_cons_self)
  ·rcases mem_insertIdx' e with e | e
   ·exact .inl e
   ·exact .inr (List.mem_cons_of_mem _ e)
theorem map_insertIdx' {α β:Type} (f:α→β) (x:α):∀ (nm:List α) (j:Nat),(nm.insertIdx j x).map f=(nm.map f).insertIdx j (f x)
 | nm,0=>by simp
 | [],j + 1=>by simp
 | z::nm,j + 1=>by simp only [List.insertIdx_succ_cons,List.map_cons,map_insertIdx' f x nm j]
theorem nodup_insertIdx {x:Int}:∀ {nm:List Int} {j:Nat},nm.Nodup→x ∉ nm→(nm.insertIdx j x).Nodup
 | nm,0,h,hx=>by rw [List.insertIdx_zero];exact List.nodup_cons.mpr ⟨hx,h⟩
 | [],j + 1,h,hx=>by simp
 | y::nm,j + 1,h,hx=>by
  rw [List.insertIdx_succ_cons]
  obtain ⟨h1,h2⟩:=List.nodup_cons.mp h
  refine List.nodup_cons.mpr ⟨fun hm=>?_,nodup_insertIdx h2 fun z=>hx (List.mem_cons_of_mem _ z)⟩
  rcases mem_insertIdx' hm with e | e
  ·exact hx (by rw [← e];exact List.mem_cons_self)
  ·exact h1 e
def rowsI (T:List (List Int)):List (List D):=T.map fun r=>r.map .int
theorem rows_tabD:∀ T:List (List Int),rows? (T.map rowD)=some (rowsI T)
 | []=>rfl
 | r::T=>by simp only [List.map_cons,rowD,rows?];rw [rows_tabD T];rfl
theorem rowsI_tabD (T:List (List Int)):D.lst ((rowsI T).map .lst)=tabD T:=by simp only [rowsI,tabD,List.map_map];rfl
def tset (T:List (List Int)) (i j v:Int):List (List Int):=T.set i.toNat ((T.getD i.toNat []).set j.toNat v)
theorem Tab.tset {T:List (List Int)} {n:Nat} (h:Tab T n) {i j v:Int} (i0:0≤i) (i1:i < n) (v0:0≤v) (v1:v < n):Tab (tset T i j v) n:=by
 have hr:=h.rowlen i0 i1
 have hm:(T.getD i.toNat []) ∈ T:=by
  have hk:i.toNat < T.length:=by have:=h.len;omega
  rw [List.getD_eq_getElem?_getD,List.getElem?_eq_getElem hk];exact List.getElem_mem hk
 refine ⟨by unfold PV.tset;rw [List.length_set];exact h.len,fun r hr'=>?_,fun r hr' x hx=>?_,h.pos,h.top⟩
 ·rcases List.mem_or_eq_of_mem_set hr' with z | z
  ·exact h.row r z
  ·rw [z,List.length_set];exact hr
 ·rcases List.mem_or_eq_of_mem_set hr' with z | z
  ·exact h.ent r z x hx
  ·rw [z] at hx
   rcases List.mem_or_eq_of_mem_set hx with y | y
   ·exact h.ent _ hm x y
   ·rw [y];exact ⟨v0,v1⟩
theorem tg_tset {T:List (List Int)} {n:Nat} (h:Tab T n) {i j v a b:Int} (i0:0≤i) (i1:i < n) (j0:0≤j) (j1:j < n) (a0:0≤a) (a1:a < n) (b0:0≤b) (b1:b < n) :
  tg (tset T i j v) a b=if a=i∧b=j then v else tg T a b:=by
 have hl:=h.len
 have hr:=h.rowlen i0 i1
 unfold tg PV.tset
 simp only [List.getD_eq_getElem?_getD]
 by_cases hai:a=i
 ·subst hai
  rw [List.getElem?_set_self (by omega),Option.getD_some]
  by_cases hbj:b=j
  ·subst hbj
   rw [List.getElem?_set_self (by simpa [List.getD_eq_getElem?_getD] using (show b.toNat < (T.getD a.toNat []).length by omega))]
   simp
  ·rw [List.getElem?_set_ne (by omega)]
   simp [hbj]
 ·rw [List.getElem?_set_ne (by omega)]
  simp [hai]
theorem eVarR_set_ne {env:Env} {i j:Nat} {s:Sl} (h:i≠j):eVarR j (env.set i s)=eVarR j env:=by unfold eVarR;rw [List.getElem?_set_ne h]
theorem law_renamed_ex {B : List (List Int)} {n : Nat} (hB : Tab B n) (c : Int) : ∃ (T : List (List Int)) (nm : List Int), φ_law_renamed [tabD B, .int c] = some (tabD T) ∧ Tab T n ∧ Prm nm n ∧
    ∀ a b : Int, 0 ≤ a → a < n → 0 ≤ b → b < n → tg T (at1 nm a) (at1 nm b) = at1 nm (tg B a b) := by
  have hn := hB.top
  let env0 : Env := [.sh (tabD B), .sh (.int c), .ow [], .un, .un, .un, .un, .un]
  have s1 : sOwn 2 (eLst []) (enter 8 [tabD B, .int c]) = some (.nx, env0) := rfl
  have key := forL_run (g := gN 3) (ds := rangeD 0 n) (b := sIns 2 (e2I iMod (eCall φ_law_draw [(eVar 1), (eVar 3), (eC (.int 12))]) (eAdd (eVar 3) (eC (.int 1)))) (eVar 3))
    (fun k env => Agr [2, 3] env env0 ∧ ∃ nm : List Int, env[2]? = some (.ow (nm.map .int)) ∧ Prm nm k) (fun k d env hd ⟨hA, nm, hv, hp⟩ => by
      have hk : k < n := by have := (List.getElem?_eq_some_iff.mp hd).1; rwa [rangeD_length] at this
      rw [rangeD_get hk] at hd
      obtain rfl : D.int k = d := by simpa using hd
      have A1 : Agr [2, 3] (env.set 3 (.sh (.int k))) env0 := hA.set (by simp) _
      have v3 : eVar 3 (env.set 3 (.sh (.int k))) = some (.int k) := eVar_set (by rw [hA.len]; simp [env0])
      have v1 : eVar 1 (env.set 3 (.sh (.int k))) = some (.int c) := by rw [A1.var (by decide)]; rfl
      obtain ⟨r, hr, r0, r1⟩ := law_draw_ex c k 12 (by omega) (by decide) (by decide)
      have ea : e2I iMod (eCall φ_law_draw [(eVar 1), (eVar 3), (eC (.int 12))]) (eAdd (eVar 3) (eC (.int 1))) (env.set 3 (.sh (.int k))) = some (.int (r % ((k : Int) + 1))) :=
        (e2I_of ((eCall3 v1 v3 rfl).trans hr) (eAdd_int v3 rfl)).trans (iMod_of (by omega))
      have p0 := Int.emod_nonneg r (show ((k : Int) + 1) ≠ 0 by omega)
      have p1 := Int.emod_lt_of_pos r (show (0 : Int) < (k : Int) + 1 by omega)
      have hl := hp.len
      have w2 : (env.set 3 (.sh (.int k)))[2]? = some (.ow (nm.map .int)) := by rw [List.getElem?_set_ne (by decide)]; exact hv
      have hs : sIns 2 (e2I iMod (eCall φ_law_draw [(eVar 1), (eVar 3), (eC (.int 12))]) (eAdd (eVar 3) (eC (.int 1)))) (eVar 3) (env.set 3 (.sh (.int k))) =
          some (.nx, (env.set 3 (.sh (.int k))).set 2 (.ow ((nm.map .int).insertIdx (r % ((k : Int) + 1)).toNat (.int k)))) := by
        simp only [sIns, w2, ea, v3]
        rw [if_pos ⟨p0, by rw [List.length_map]; omega, by rw [List.length_map, lim_eq]; omega⟩]
      refine ⟨_, _, rfl, hs, A1.set (by simp) _, nm.insertIdx (r % ((k : Int) + 1)).toNat k, ?_, ⟨?_, ?_, fun x hx => ?_⟩⟩
      · rw [set_get (by rw [List.length_set, hA.len]; simp [env0]), map_insertIdx']
      · rw [List.length_insertIdx, if_pos (by omega)]; omega
      · exact nodup_insertIdx hp.nd fun z => by have := hp.bd _ z; omega
      · rcases mem_insertIdx' hx with e | e
        · subst e; omega
        · have := hp.bd x e; omega) env0 ⟨Agr.refl _ _, [], rfl, ⟨rfl, List.nodup_nil, fun x hx => by cases hx⟩⟩
  obtain ⟨e1, x1, A1, nm, v2, hp⟩ := key
  rw [rangeD_length] at hp
  rw [← sFor_of (it := iRng (eF1 fLen (eVar 0))) (iRng_of (eF1_len hB rfl) hB.le)] at x1
  have l1 : e1.length = 8 := A1.len
  have w0 : eVar 0 e1 = some (tabD B) := by rw [A1.var (by decide)]; rfl
  have s2 : sTab 4 (eComp 5 (iOf (eVar 0)) tTrue (eF1 fList (eVar 5))) e1 = some (.nx, e1.set 4 (.tab (rowsI B))) := by
    have hlen : (B.map rowD).length ≤ lim := by rw [List.length_map, hB.len, lim_eq]; omega
    have hc := compL_map (i := 5) (e := eF1 fList (eVar 5)) (env := e1) (fun d => d) (B.map rowD) (fun d hd => by
      obtain ⟨r, hr, rfl⟩ := List.mem_map.mp hd
      rw [eF1_of (eVar_set (by rw [l1]; decide))]; rfl)
    rw [List.map_id'] at hc
    simp only [sTab, eComp, iOf_tab w0, hlen, if_true, hc, rows_tabD]
  let e2 := e1.set 4 (.tab (rowsI B))
  have l2 : e2.length = 8 := by show (e1.set 4 _).length = 8; rw [List.length_set]; exact l1
  have z0 : eVar 0 e2 = some (tabD B) := by show eVar 0 (e1.set 4 _) = _; rw [eVar_set_ne (by decide)]; exact w0
  have z2 : eVarR 2 e2 = some (rowD nm) := by show eVarR 2 (e1.set 4 _) = _; rw [eVarR_set_ne (by decide)]; unfold eVarR; rw [v2]; rfl
  have z4 : e2[4]? = some (.tab (rowsI B)) := set_get (by rw [l1]; decide)
  have irow : ∀ {env : Env} {e1 e2 : Ex} {k : Int}, e1 env = some (rowD nm) → e2 env = some (.int k) → 0 ≤ k → k < n → eIx e1 e2 env = some (.int (at1 nm k)) := fun {env e1 e2 k} h1 h2 k0 k1 => by
    simp only [eIx, eF2, h1, h2]
    rw [fIx_row k0 (by rw [hp.len]; exact k1)]; rfl
  have turn : ∀ (a b : Nat) (env : Env) (T : List (List Int)), a < n → b < n → Agr [4, 6, 7] env e2 → eVar 6 env = some (.int a) → eVar 7 env = some (.int b) → env[4]? = some (.tab (rowsI T)) → Tab T n →
      sPut2 4 (eIx (eVarR 2) (eVar 6)) (eIx (eVarR 2) (eVar 7)) (eSc (eIx (eVarR 2) (eIx (eIx (eVar 0) (eVar 6)) (eVar 7)))) env = some (.nx, env.set 4 (.tab (rowsI (tset T (at1 nm a) (at1 nm b) (at1 nm (tg B a b)))))) := by
    intro a b env T ha hb hA k6 k7 k4 hT
    have k0 : eVar 0 env = some (tabD B) := by rw [hA.var (by decide)]; exact z0
    have k2 : eVarR 2 env = some (rowD nm) := by rw [hA.varR (by decide)]; exact z2
    have ea := irow k2 k6 (by omega) (by omega)
    have eb := irow k2 k7 (by omega) (by omega)
    have ex := ix2 hB k0 k6 k7 (by omega) (by omega) (by omega) (by omega)
    have bb := hB.bound (a := a) (b := b) (by omega) (by omega) (by omega) (by omega)
    have ev := irow k2 ex bb.1 bb.2
    have pa := hp.at (k := a) (by omega) (by omega)
    have pb := hp.at (k := b) (by omega) (by omega)
    have es : eSc (eIx (eVarR 2) (eIx (eIx (eVar 0) (eVar 6)) (eVar 7))) env = some (.int (at1 nm (tg B a b))) := by simp only [eSc, ev, scalD]; rfl
    have hl := hT.len
    have i1 : ixN (rowsI T).length (at1 nm a) = some (at1 nm a).toNat := by unfold ixN; rw [if_pos pa.1, if_pos (by rw [rowsI, List.length_map]; omega)]
    have g1 : (rowsI T)[(at1 nm a).toNat]? = some ((T.getD (at1 nm a).toNat []).map .int) := by
      have hk : (at1 nm a).toNat < T.length := by omega
      rw [rowsI, List.getElem?_map, List.getElem?_eq_getElem hk, List.getD_eq_getElem?_getD, List.getElem?_eq_getElem hk]; rfl
    have rl := hT.rowlen pa.1 pa.2
    have i2 : ixN ((T.getD (at1 nm a).toNat []).map D.int).length (at1 nm b) = some (at1 nm b).toNat := by unfold ixN; rw [if_pos pb.1, if_pos (by rw [List.length_map, rl]; omega)]
    simp only [sPut2, k4, es, ea, eb, i1, g1, i2]
    congr 3
    simp only [rowsI, PV.tset, List.map_set]
  have key2 := forL_run (g := gN 6) (ds := rangeD 0 n) (b := sFor (gN 7) (iRng (eF1 fLen (eVar 0))) (sPut2 4 (eIx (eVarR 2) (eVar 6)) (eIx (eVarR 2) (eVar 7)) (eSc (eIx (eVarR 2) (eIx (eIx (eVar 0) (eVar 6)) (eVar 7))))))
    (fun k env => Agr [4, 6, 7] env e2 ∧ ∃ T, env[4]? = some (.tab (rowsI T)) ∧ Tab T n ∧ ∀ a b : Int, 0 ≤ a → a < k → 0 ≤ b → b < n → tg T (at1 nm a) (at1 nm b) = at1 nm (tg B a b)) (fun k d env hd ⟨hA, T, hv, hT, hI⟩ => by
      have hk : k < n := by have := (List.getElem?_eq_some_iff.mp hd).1; rwa [rangeD_length] at this
      rw [rangeD_get hk] at hd
      obtain rfl : D.int k = d := by simpa using hd
      have A2 : Agr [4, 6, 7] (env.set 6 (.sh (.int k))) e2 := hA.set (by simp) _
      have u6 : eVar 6 (env.set 6 (.sh (.int k))) = some (.int k) := eVar_set (by rw [hA.len, l2]; decide)
      have u0 : eVar 0 (env.set 6 (.sh (.int k))) = some (tabD B) := by rw [A2.var (by decide)]; exact z0
      have inner := forL_run (g := gN 7) (ds := rangeD 0 n) (b := sPut2 4 (eIx (eVarR 2) (eVar 6)) (eIx (eVarR 2) (eVar 7)) (eSc (eIx (eVarR 2) (eIx (eIx (eVar 0) (eVar 6)) (eVar 7)))))
        (fun j env => Agr [4, 6, 7] env e2 ∧ eVar 6 env = some (.int k) ∧ ∃ T, env[4]? = some (.tab (rowsI T)) ∧ Tab T n ∧ (∀ a b : Int, 0 ≤ a → a < k → 0 ≤ b → b < n → tg T (at1 nm a) (at1 nm b) = at1 nm (tg B a b)) ∧
          ∀ b : Int, 0 ≤ b → b < j → tg T (at1 nm k) (at1 nm b) = at1 nm (tg B k b)) (fun j d env hd ⟨hA, h6, T, hv, hT, hI, hJ⟩ => by
          have hj : j < n := by have := (List.getElem?_eq_some_iff.mp hd).1; rwa [rangeD_length] at this
          rw [rangeD_get hj] at hd
          obtain rfl : D.int j = d := by simpa using hd
          have A3 : Agr [4, 6, 7] (env.set 7 (.sh (.int j))) e2 := hA.set (by simp) _
          have t7 : eVar 7 (env.set 7 (.sh (.int j))) = some (.int j) := eVar_set (by rw [hA.len, l2]; decide)
          have t6 : eVar 6 (env.set 7 (.sh (.int j))) = some (.int k) := by rw [eVar_set_ne (by decide)]; exact h6
          have t4 : (env.set 7 (.sh (.int j)))[4]? = some (.tab (rowsI T)) := by rw [List.getElem?_set_ne (by decide)]; exact hv
          have pk := hp.at (k := k) (by omega) (by omega)
          have pj := hp.at (k := j) (by omega) (by omega)
          have bb := hB.bound (a := k) (b := j) (by omega) (by omega) (by omega) (by omega)
          have pv := hp.at bb.1 bb.2
          refine ⟨_, _, rfl, turn k j _ T hk hj A3 t6 t7 t4 hT, A3.set (by simp) _, by rw [eVar_set_ne (by decide)]; exact t6, _, set_get (by rw [A3.len, l2]; decide), hT.tset pk.1 pk.2 pv.1 pv.2, fun a b a0 a1 b0 b1 => ?_, fun b b0 b1 => ?_⟩
          · have qa := hp.at (k := a) a0 (by omega)
            have qb := hp.at (k := b) b0 b1
            rw [tg_tset hT pk.1 pk.2 pj.1 pj.2 qa.1 qa.2 qb.1 qb.2, if_neg]
            · exact hI a b a0 a1 b0 b1
            · rintro ⟨e, _⟩
              have := hp.inj a0 (by omega) (by omega) (by omega) e
              omega
          · have qb := hp.at (k := b) b0 (by omega)
            rw [tg_tset hT pk.1 pk.2 pj.1 pj.2 pk.1 pk.2 qb.1 qb.2]
            by_cases e : b = j
            · subst e; simp
            · rw [if_neg]
              · exact hJ b b0 (by omega)
              · rintro ⟨_, e2⟩
                exact e (hp.inj b0 (by omega) (by omega) (by omega) e2)) (env.set 6 (.sh (.int k))) ⟨A2, u6, T, by rw [List.getElem?_set_ne (by decide)]; exact hv, hT, hI, fun b b0 b1 => by omega⟩
      obtain ⟨e3, x3, hA3, h6, T3, hv3, hT3, hI3, hJ3⟩ := inner
      rw [rangeD_length] at hJ3
      refine ⟨_, e3, rfl, (sFor_of (iRng_of (eF1_len hB u0) hB.le)).trans x3, hA3, T3, hv3, hT3, fun a b a0 a1 b0 b1 => ?_⟩
      by_cases e : a = k
      · subst e; exact hJ3 b b0 b1
      · exact hI3 a b a0 (by omega) b0 b1) e2 ⟨Agr.refl _ _, B, z4, hB, fun a b a0 a1 _ _ => by omega⟩
  obtain ⟨e3, x3, A3, T, hv, hT, hI⟩ := key2
  rw [rangeD_length] at hI
  rw [← sFor_of (it := iRng (eF1 fLen (eVar 0))) (iRng_of (eF1_len hB z0) hB.le)] at x3
  have s3 : sRetT 4 e3 = some (.rt (tabD T), e3) := by simp only [sRetT, hv, rowsI_tabD]
  exact ⟨T, nm, run_rt rfl ((sSeq_nx s1).trans ((sSeq_nx x1).trans ((sSeq_nx s2).trans ((sSeq_nx x3).trans s3)))), hT, hp, hI⟩
end PV
set_option maxRecDepth 100000
namespace PV
open PySem (Str)
theorem ints_eq:∀ {ds:List D} {xs:List Int},ints? ds=some xs→ds=xs.map .int
 | [],xs,h=>by simp [ints?] at h;subst h;rfl
 | .int i::ds,xs,h=>by
  simp only [ints?] at h
  cases e:ints? ds with
  | none=>rw [e] at h;cases h
  | some r=>rw [e] at h;cases h;rw [ints_eq e];rfl
 | .non::_,_,h=>by simp [ints?] at h
 | .bl _::_,_,h=>by simp [ints?] at h
 | .str _::_,_,h=>by simp [ints?] at h
 | .lst _::_,_,h=>by simp [ints?] at h
 | .tup _::_,_,h=>by simp [ints?] at h
def tabs?:List D→Option (List (List Int))
 | []=>some []
 | .lst ds::r=>match ints? ds,tabs? r with
  | some xs,some T=>some (xs::T)
  | _,_=>none
 | _::_=>none
theorem tabs_eq:∀ {ds:List D} {T:List (List Int)},tabs? ds=some T→ds=T.map rowD
 | [],T,h=>by simp [tabs?] at h;subst h;rfl
 | .lst ds::r,T,h=>by
  simp only [tabs?] at h
  split at h
  ·rename_i xs T' e1 e2
   cases h
   rw [ints_eq e1,tabs_eq e2];rfl
  ·cases h
 | .non::_,_,h=>by simp [tabs?] at h
 | .bl _::_,_,h=>by simp [tabs?] at h
 | .int _::_,_,h=>by simp [tabs?] at h
 | .str _::_,_,h=>by simp [tabs?] at h
 | .tup _::_,_,h=>by simp [tabs?] at h
def tab?:D→Option (List (List Int))
 | .lst ds=>tabs? ds
 | _=>none
theorem tab_eq {d:D} {T:List (List Int)} (h:tab? d=some T):d=tabD T:=by
 cases d with
 | lst ds=>rw [tabs_eq (show tabs? ds=some T from h)];rfl
 | _=>cases h
def tabB (T:List (List Int)):Bool:=decide (1≤T.length) && decide (T.length≤12) && T.all fun r=>r.length == T.length && r.all fun x=>decide (0≤x) && decide (x < T.length)
theorem tabB_ok {T:List (List Int)} (h:tabB T=true):Tab T T.length:=by
 simp only [tabB,Bool.and_eq_true,decide_eq_true_eq,List.all_eq_true,beq_iff_eq] at h
 exact ⟨rfl,fun r hr=>(h.2 r hr).1,fun r hr x hx=>(h.2 r hr).2 x hx,h.1.1,h.1.2⟩
def baseT (k:Nat):List (List Int):=((φ_law_base [.int k]).bind tab?).getD []
def baseB (k:Nat):Bool:=match φ_law_base [.int k] with
 | some d=>match tab? d with
  | some T=>tabB T
  | none=>false
 | none=>false
theorem base_all:(List.range 24).all baseB=true:=by decide +kernel
theorem base_ok {k:Nat} (h:k < 24):φ_law_base [.int k]=some (tabD (baseT k))∧Tab (baseT k) (baseT k).length:=by
 have hb:baseB k=true:=List.all_eq_true.mp base_all k (List.mem_range.mpr h)
 unfold baseB at hb
 unfold baseT
 cases e:φ_law_base [.int k] with
 | none=>rw [e] at hb;cases hb
 | some d =>
  rw [e] at hb
  dsimp only at hb
  cases e2:tab? d with
  | none=>rw [e2] at hb;cases hb
  | some T =>
   rw [e2] at hb
   rw [Option.bind_some,e2,Option.getD_some,tab_eq e2]
   exact ⟨rfl,tabB_ok hb⟩
end PV
namespace PV
open PySem (Str)
theorem mod_nat (i:Int) {n:Nat} (h:0 < n):∃ k:Nat,k < n∧i % (n:Int)=k:=by
 have h0:=Int.emod_nonneg i (show (n:Int)≠0 by omega)
 have h1:=Int.emod_lt_of_pos i (show (0:Int) < n by omega)
 exact ⟨(i % n).toNat,by omega,by omega⟩
theorem law_folk_by_ex (ns:List Int) (f:Nat):∃ (k n:Nat) (T:List (List Int)) (nm:List Int),k < 24∧φ_law_folk_by [rowD ns,.int f]=some (tabD T)∧Tab (baseT k) n∧Tab T n∧Prm nm n ∧
  ∀ a b:Int,0≤a→a < n→0≤b→b < n→tg T (at1 nm a) (at1 nm b)=at1 nm (tg (baseT k) a b):=by
 obtain ⟨k,hk,ek⟩:=mod_nat (cellV ns f) (show 0 < 24 by decide)
 obtain ⟨eb,tb⟩:=base_ok hk
 obtain ⟨T,nm,e,hT,hp,hI⟩:=law_renamed_ex tb (cellV ns (f + 1))
 refine ⟨k,_,T,nm,hk,run_rt rfl (sRet_of ((eCall2 ((eCall1 ((e2I_of ((eCall2 rfl rfl).trans (law_cell_at_eq ns f)) rfl).trans (iMod_of (by decide)))).trans ?_) ((eCall2 rfl (eAdd_int (i:=f) (j:=1) rfl rfl)).trans (law_cell_at_eq ns (f + 1)))).trans e)),tb,hT,hp,hI⟩
 have:(cellV ns f % 24)=k:=ek
 rw [this]
 exact eb
end PV
namespace PV
open PySem (Str)
def baseL:List (List (List Int)):=[
 [[0]],
 [[0,1],[1,0]],
 [[0,1,2],[1,2,0],[2,0,1]],
 [[0,1,2,3],[1,2,3,0],[2,3,0,1],[3,0,1,2]],
 [[0,1,2,3],[1,0,3,2],[2,3,0,1],[3,2,1,0]],
 [[0,1,2,3,4],[1,2,3,4,0],[2,3,4,0,1],[3,4,0,1,2],[4,0,1,2,3]],
 [[0,1,2,3,4,5],[1,2,3,4,5,0],[2,3,4,5,0,1],[3,4,5,0,1,2],[4,5,0,1,2,3],[5,0,1,2,3,4]],
 [[0,1,2,3,4,5,6],[1,2,3,4,5,6,0],[2,3,4,5,6,0,1],[3,4,5,6,0,1,2],[4,5,6,0,1,2,3],[5,6,0,1,2,3,4],[6,0,1,2,3,4,5]],
 [[0,1,2,3,4,5,6,7],[1,2,3,4,5,6,7,0],[2,3,4,5,6,7,0,1],[3,4,5,6,7,0,1,2],[4,5,6,7,0,1,2,3],[5,6,7,0,1,2,3,4],[6,7,0,1,2,3,4,5],[7,0,1,2,3,4,5,6]],
 [[0,1,2,3,4,5,6,7],[1,0,3,2,5,4,7,6],[2,3,4,5,6,7,0,1],[3,2,5,4,7,6,1,0],[4,5,6,7,0,1,2,3],[5,4,7,6,1,0,3,2],[6,7,0,1,2,3,4,5],[7,6,1,0,3,2,5,4]],
 [[0,1,2,3,4,5,6,7],[1,0,3,2,5,4,7,6],[2,3,0,1,6,7,4,5],[3,2,1,0,7,6,5,4],[4,5,6,7,0,1,2,3],[5,4,7,6,1,0,3,2],[6,7,4,5,2,3,0,1],[7,6,5,4,3,2,1,0]],
 [[0,1,2,3,4,5,6,7,8],[1,2,3,4,5,6,7,8,0],[2,3,4,5,6,7,8,0,1],[3,4,5,6,7,8,0,1,2],[4,5,6,7,8,0,1,2,3],[5,6,7,8,0,1,2,3,4],[6,7,8,0,1,2,3,4,5],[7,8,0,1,2,3,4,5,6],[8,0,1,2,3,4,5,6,7]],
 [[0,1,2,3,4,5,6,7,8],[1,2,0,4,5,3,7,8,6],[2,0,1,5,3,4,8,6,7],[3,4,5,6,7,8,0,1,2],[4,5,3,7,8,6,1,2,0],[5,3,4,8,6,7,2,0,1],[6,7,8,0,1,2,3,4,5],[7,8,6,1,2,0,4,5,3],[8,6,7,2,0,1,5,3,4]],
 [[0,1,2,3,4,5,6,7,8,9],[1,2,3,4,5,6,7,8,9,0],[2,3,4,5,6,7,8,9,0,1],[3,4,5,6,7,8,9,0,1,2],[4,5,6,7,8,9,0,1,2,3],[5,6,7,8,9,0,1,2,3,4],[6,7,8,9,0,1,2,3,4,5],[7,8,9,0,1,2,3,4,5,6],[8,9,0,1,2,3,4,5,6,7],[9,0,1,2,3,4,5,6,7,8]],
 [[0,1,2,3,4,5,6,7,8,9,10],[1,2,3,4,5,6,7,8,9,10,0],[2,3,4,5,6,7,8,9,10,0,1],[3,4,5,6,7,8,9,10,0,1,2],[4,5,6,7,8,9,10,0,1,2,3],[5,6,7,8,9,10,0,1,2,3,4],[6,7,8,9,10,0,1,2,3,4,5],[7,8,9,10,0,1,2,3,4,5,6],[8,9,10,0,1,2,3,4,5,6,7],[9,10,0,1,2,3,4,5,6,7,8],[10,0,1,2,3,4,5,6,7,8,9]],
 [[0,1,2,3,4,5,6,7,8,9,10,11],[1,2,3,4,5,6,7,8,9,10,11,0],[2,3,4,5,6,7,8,9,10,11,0,1],[3,4,5,6,7,8,9,10,11,0,1,2],[4,5,6,7,8,9,10,11,0,1,2,3],[5,6,7,8,9,10,11,0,1,2,3,4],[6,7,8,9,10,11,0,1,2,3,4,5],[7,8,9,10,11,0,1,2,3,4,5,6],[8,9,10,11,0,1,2,3,4,5,6,7],[9,10,11,0,1,2,3,4,5,6,7,8],[10,11,0,1,2,3,4,5,6,7,8,9],[11,0,1,2,3,4,5,6,7,8,9,10]],
 [[0,1,2,3,4,5,6,7,8,9,10,11],[1,0,3,2,5,4,7,6,9,8,11,10],[2,3,4,5,6,7,8,9,10,11,0,1],[3,2,5,4,7,6,9,8,11,10,1,0],[4,5,6,7,8,9,10,11,0,1,2,3],[5,4,7,6,9,8,11,10,1,0,3,2],[6,7,8,9,10,11,0,1,2,3,4,5],[7,6,9,8,11,10,1,0,3,2,5,4],[8,9,10,11,0,1,2,3,4,5,6,7],[9,8,11,10,1,0,3,2,5,4,7,6],[10,11,0,1,2,3,4,5,6,7,8,9],[11,10,1,0,3,2,5,4,7,6,9,8]],
 [[0,1,2,3,4,5],[1,2,0,4,5,3],[2,0,1,5,3,4],[3,5,4,0,2,1],[4,3,5,1,0,2],[5,4,3,2,1,0]],
 [[0,1,2,3,4,5,6,7],[1,2,3,0,5,6,7,4],[2,3,0,1,6,7,4,5],[3,0,1,2,7,4,5,6],[4,7,6,5,0,3,2,1],[5,4,7,6,1,0,3,2],[6,5,4,7,2,1,0,3],[7,6,5,4,3,2,1,0]],
 [[0,1,2,3,4,5,6,7,8,9],[1,2,3,4,0,6,7,8,9,5],[2,3,4,0,1,7,8,9,5,6],[3,4,0,1,2,8,9,5,6,7],[4,0,1,2,3,9,5,6,7,8],[5,9,8,7,6,0,4,3,2,1],[6,5,9,8,7,1,0,4,3,2],[7,6,5,9,8,2,1,0,4,3],[8,7,6,5,9,3,2,1,0,4],[9,8,7,6,5,4,3,2,1,0]],
 [[0,1,2,3,4,5,6,7,8,9,10,11],[1,2,3,4,5,0,7,8,9,10,11,6],[2,3,4,5,0,1,8,9,10,11,6,7],[3,4,5,0,1,2,9,10,11,6,7,8],[4,5,0,1,2,3,10,11,6,7,8,9],[5,0,1,2,3,4,11,6,7,8,9,10],[6,11,10,9,8,7,0,5,4,3,2,1],[7,6,11,10,9,8,1,0,5,4,3,2],[8,7,6,11,10,9,2,1,0,5,4,3],[9,8,7,6,11,10,3,2,1,0,5,4],[10,9,8,7,6,11,4,3,2,1,0,5],[11,10,9,8,7,6,5,4,3,2,1,0]],
 [[0,1,2,3,4,5,6,7],[1,2,3,0,5,6,7,4],[2,3,0,1,6,7,4,5],[3,0,1,2,7,4,5,6],[4,7,6,5,2,1,0,3],[5,4,7,6,3,2,1,0],[6,5,4,7,0,3,2,1],[7,6,5,4,1,0,3,2]],
 [[0,1,2,3,4,5,6,7,8,9,10,11],[1,2,3,4,5,0,7,8,9,10,11,6],[2,3,4,5,0,1,8,9,10,11,6,7],[3,4,5,0,1,2,9,10,11,6,7,8],[4,5,0,1,2,3,10,11,6,7,8,9],[5,0,1,2,3,4,11,6,7,8,9,10],[6,11,10,9,8,7,3,2,1,0,5,4],[7,6,11,10,9,8,4,3,2,1,0,5],[8,7,6,11,10,9,5,4,3,2,1,0],[9,8,7,6,11,10,0,5,4,3,2,1],[10,9,8,7,6,11,1,0,5,4,3,2],[11,10,9,8,7,6,2,1,0,5,4,3]],
 [[0,1,2,3,4,5,6,7,8,9,10,11],[1,2,0,5,3,4,7,8,6,11,9,10],[2,0,1,4,5,3,8,6,7,10,11,9],[3,6,9,0,7,10,1,4,11,2,5,8],[4,8,10,2,6,11,0,5,9,1,3,7],[5,7,11,1,8,9,2,3,10,0,4,6],[6,9,3,10,0,7,4,11,1,8,2,5],[7,11,5,9,1,8,3,10,2,6,0,4],[8,10,4,11,2,6,5,9,0,7,1,3],[9,3,6,7,10,0,11,1,4,5,8,2],[10,4,8,6,11,2,9,0,5,3,7,1],[11,5,7,8,9,1,10,2,3,4,6,0]]]
def litB (k:Nat):Bool:=match φ_law_base [.int k] with
 | some d=>tab? d == some (baseL.getD k [])
 | none=>false
theorem lit_all:(List.range 24).all litB=true:=by decide +kernel
theorem base_lit {k:Nat} (h:k < 24):baseT k=baseL.getD k []:=by
 have hb:litB k=true:=List.all_eq_true.mp lit_all k (List.mem_range.mpr h)
 unfold litB at hb
 unfold baseT
 cases e:φ_law_base [.int k] with
 | none=>rw [e] at hb;cases hb
 | some d =>
  rw [e] at hb
  have hb:tab? d=some (baseL.getD k []):=by simpa using hb
  simp [hb]
structure Grp (T:List (List Int)) (n:Nat) (s:Nat):Prop where
 tab:Tab T n
 lt:s < n
 asc:∀ a b c:Int,0≤a→a < n→0≤b→b < n→0≤c→c < n→tg T (tg T a b) c=tg T a (tg T b c)
 idl:∀ a:Int,0≤a→a < n→tg T s a=a
 idr:∀ a:Int,0≤a→a < n→tg T a s=a
 inv:∀ a:Int,0≤a→a < n→∃ b:Int,0≤b∧b < n∧tg T a b=s∧tg T b a=s
def ascB (T:List (List Int)) (n:Nat):Bool:=(List.range n).all fun a=>(List.range n).all fun b=>(List.range n).all fun c=>tg T (tg T a b) c == tg T a (tg T b c)
def idB (T:List (List Int)) (n s:Nat):Bool:=(List.range n).all fun a=>tg T s a == a && tg T a s == a
def invB (T:List (List Int)) (n s:Nat):Bool:=(List.range n).all fun a=>(List.range n).any fun b=>tg T a b == s && tg T b a == s
def grpB (T:List (List Int)):Bool:=decide (0 < T.length) && ascB T T.length && idB T T.length 0 && invB T T.length 0
theorem int_nat {a:Int} {n:Nat} (h0:0≤a) (h1:a < n):∃ k:Nat,k < n∧a=k:=⟨a.toNat,by omega,by omega⟩
theorem grpB_ok {T:List (List Int)} (ht:Tab T T.length) (h:grpB T=true):Grp T T.length 0:=by
 simp only [grpB,Bool.and_eq_true,decide_eq_true_eq,ascB,idB,invB,List.all_eq_true,List.any_eq_true,List.mem_range,beq_iff_eq] at h
 obtain ⟨⟨⟨h0,ha⟩,hi⟩,hv⟩:=h
 refine ⟨ht,h0,fun a b c a0 a1 b0 b1 c0 c1=>?_,fun a a0 a1=>?_,fun a a0 a1=>?_,fun a a0 a1=>?_⟩
 ·obtain ⟨a,a2,rfl⟩:=int_nat a0 a1
  obtain ⟨b,b2,rfl⟩:=int_nat b0 b1
  obtain ⟨c,c2,rfl⟩:=int_nat c0 c1
  exact ha a a2 b b2 c c2
 ·obtain ⟨a,a2,rfl⟩:=int_nat a0 a1
  exact (hi a a2).1
 ·obtain ⟨a,a2,rfl⟩:=int_nat a0 a1
  exact (hi a a2).2
 ·obtain ⟨a,a2,rfl⟩:=int_nat a0 a1
  obtain ⟨b,hb,h1,h2⟩:=hv a a2
  exact ⟨b,by omega,by omega,h1,h2⟩
theorem grp_all:(List.range 24).all (fun k=>grpB (baseL.getD k []))=true:=by decide +kernel
theorem base_grp {k:Nat} (h:k < 24):Grp (baseT k) (baseT k).length 0:=grpB_ok (base_ok h).2 (by
 rw [base_lit h]
 exact List.all_eq_true.mp grp_all k (List.mem_range.mpr h))
theorem Prm.onto {nm:List Int} {n:Nat} (h:Prm nm n) {x:Int} (x0:0≤x) (x1:x < n):∃ a:Int,0≤a∧a < n∧at1 nm a=x:=by
 have hsub:nm ⊆ (List.range n).map Int.ofNat:=fun y hy=>by
  obtain ⟨h0,h1⟩:=h.bd y hy
  exact List.mem_map.mpr ⟨y.toNat,List.mem_range.mpr (by omega),by simp [Int.toNat_of_nonneg h0]⟩
 have hmem:x ∈ nm:=by
  apply Classical.byContradiction
  intro hx
  have hnd:(x::nm).Nodup:=List.nodup_cons.mpr ⟨hx,h.nd⟩
  have hsub2:(x::nm) ⊆ (List.range n).map Int.ofNat:=fun y hy=>by
   rcases List.mem_cons.mp hy with rfl | hy
   ·exact List.mem_map.mpr ⟨y.toNat,List.mem_range.mpr (by omega),by simp [Int.toNat_of_nonneg x0]⟩
   ·exact hsub hy
  have hl:=hnd.length_le_of_subset hsub2
  simp [h.len] at hl
  omega
 obtain ⟨i,hi,e⟩:=List.mem_iff_getElem.mp hmem
 refine ⟨i,by omega,by have:=h.len;omega,?_⟩
 unfold at1
 rw [List.getD_eq_getElem?_getD,Int.toNat_natCast,List.getElem?_eq_getElem hi]
 exact e
theorem Grp.ren {B T:List (List Int)} {n s:Nat} {nm:List Int} (G:Grp B n s) (hT:Tab T n) (hp:Prm nm n) (hI:∀ a b:Int,0≤a→a < n→0≤b→b < n→tg T (at1 nm a) (at1 nm b)=at1 nm (tg B a b)):∃ s':Nat,(s':Int)=at1 nm s∧Grp T n s':=by
 have hs:=G.lt
 obtain ⟨z0,z1⟩:=hp.at (k:=s) (by omega) (by omega)
 obtain ⟨s',hs',es⟩:=int_nat z0 z1
 have bd:=fun {a b:Int} a0 a1 b0 b1=>G.tab.bound (a:=a) (b:=b) a0 a1 b0 b1
 refine ⟨s',es.symm,hT,hs',?_,?_,?_,?_⟩
 ·intro a b c a0 a1 b0 b1 c0 c1
  obtain ⟨a',a2,a3,rfl⟩:=hp.onto a0 a1
  obtain ⟨b',b2,b3,rfl⟩:=hp.onto b0 b1
  obtain ⟨c',c2,c3,rfl⟩:=hp.onto c0 c1
  obtain ⟨p0,p1⟩:=bd a2 a3 b2 b3
  obtain ⟨q0,q1⟩:=bd b2 b3 c2 c3
  rw [hI _ _ a2 a3 b2 b3,hI _ _ p0 p1 c2 c3,hI _ _ b2 b3 c2 c3,hI _ _ a2 a3 q0 q1,G.asc _ _ _ a2 a3 b2 b3 c2 c3]
 ·intro a a0 a1
  obtain ⟨a',a2,a3,rfl⟩:=hp.onto a0 a1
  rw [← es,hI _ _ (by omega) (by omega) a2 a3,G.idl _ a2 a3]
 ·intro a a0 a1
  obtain ⟨a',a2,a3,rfl⟩:=hp.onto a0 a1
  rw [← es,hI _ _ a2 a3 (by omega) (by omega),G.idr _ a2 a3]
 ·intro a a0 a1
  obtain ⟨a',a2,a3,rfl⟩:=hp.onto a0 a1
  obtain ⟨b,b0,b1,h1,h2⟩:=G.inv a' a2 a3
  obtain ⟨y0,y1⟩:=hp.at b0 b1
  refine ⟨at1 nm b,y0,y1,?_,?_⟩
  ·rw [hI _ _ a2 a3 b0 b1,h1,es]
  ·rw [hI _ _ b0 b1 a2 a3,h2,es]
theorem findSome_none {α β:Type} {q:α→Option β} {ds:List α} (h:∀ d ∈ ds,q d=none):ds.findSome? q=none:=List.findSome?_eq_none_iff.mpr h
theorem findSome_first {n:Nat} {p:Nat→Bool} {k:Nat} (hk:k < n) (hp:p k=true) (hu:∀ j,j < k→p j=false) {q:D→Option D} (hq:∀ j:Nat,q (.int j)=if p j then some (.int j) else none):(rangeD 0 n).findSome? q=some (.int k):=by
 cases e:(rangeD 0 n).findSome? q with
 | none =>
  have:=List.findSome?_eq_none_iff.mp e (.int k) (List.mem_of_getElem? (by rw [rangeD_get hk];simp))
  rw [hq,if_pos hp] at this
  cases this
 | some r =>
  obtain ⟨l1,d,l2,h1,h2,h3⟩:=List.findSome?_eq_some_iff.mp e
  have hd:d ∈ rangeD 0 n:=by rw [h1];simp
  obtain ⟨j,hj,rfl⟩:=mem_rangeD hd
  rw [hq] at h2
  split at h2
  ·rename_i hpj
   cases h2
   rcases Nat.lt_trichotomy j k with hlt | rfl | hgt
   ·rw [hu j hlt] at hpj;cases hpj
   ·rfl
   ·exfalso
    have hl:l1.length=j:=by
     have hg:(rangeD 0 n)[l1.length]?=some (.int j):=by rw [h1];simp
     have hlt:l1.length < n:=by
      have:=congrArg List.length h1
      rw [rangeD_length] at this
      simp at this
      omega
     rw [rangeD_get hlt] at hg
     injection hg with hg
     injection hg with hg
     omega
    have hm:(D.int k) ∈ l1:=by
     have hg:(rangeD 0 n)[k]?=some (.int k):=by rw [rangeD_get hk];simp
     rw [h1,List.getElem?_append_left (by omega)] at hg
     exact List.mem_of_getElem? hg
    have:=h3 _ hm
    rw [hq,if_pos hp] at this
    cases this
  ·cases h2
end PV
set_option linter.all false
set_option Elab.async false
set_option maxHeartbeats 2000000
namespace PV
open PySem (Str)
def pw (T:List (List Int)) (s e:Int):Nat→Int
 | 0=>s
 | k + 1=>tg T (pw T s e k) e
def El (n:Nat) (a:Int):Prop:=0≤a∧a < n
theorem El.nat {n:Nat} {a:Int} (h:El n a):∃ k:Nat,k < n∧a=k:=int_nat h.1 h.2
theorem El.of {n k:Nat} (h:k < n):El n (k:Int):=⟨by omega,by omega⟩
theorem Grp.bd {T:List (List Int)} {n s:Nat} (G:Grp T n s) {a b:Int} (ha:El n a) (hb:El n b):El n (tg T a b):=G.tab.bound ha.1 ha.2 hb.1 hb.2
theorem Grp.as {T:List (List Int)} {n s:Nat} (G:Grp T n s) {a b c:Int} (ha:El n a) (hb:El n b) (hc:El n c):tg T (tg T a b) c=tg T a (tg T b c):=G.asc a b c ha.1 ha.2 hb.1 hb.2 hc.1 hc.2
theorem Grp.l {T:List (List Int)} {n s:Nat} (G:Grp T n s) {a:Int} (ha:El n a):tg T s a=a:=G.idl a ha.1 ha.2
theorem Grp.r {T:List (List Int)} {n s:Nat} (G:Grp T n s) {a:Int} (ha:El n a):tg T a s=a:=G.idr a ha.1 ha.2
theorem Grp.i {T:List (List Int)} {n s:Nat} (G:Grp T n s) {a:Int} (ha:El n a):∃ b,El n b∧tg T a b=s∧tg T b a=s:=by
 obtain ⟨b,b0,b1,h1,h2⟩:=G.inv a ha.1 ha.2;exact ⟨b,⟨b0,b1⟩,h1,h2⟩
theorem Grp.s {T:List (List Int)} {n s:Nat} (G:Grp T n s):El n (s:Int):=El.of G.lt
theorem Grp.cl {T:List (List Int)} {n s:Nat} (G:Grp T n s) {a x y:Int} (ha:El n a) (hx:El n x) (hy:El n y) (h:tg T a x=tg T a y):x=y:=by
 obtain ⟨b,hb,h1,h2⟩:=G.i ha
 rw [← G.l hx,← G.l hy,← h2,G.as hb ha hx,G.as hb ha hy,h]
theorem Grp.cr {T:List (List Int)} {n s:Nat} (G:Grp T n s) {a x y:Int} (ha:El n a) (hx:El n x) (hy:El n y) (h:tg T x a=tg T y a):x=y:=by
 obtain ⟨b,hb,h1,h2⟩:=G.i ha
 rw [← G.r hx,← G.r hy,← h1,← G.as hx ha hb,← G.as hy ha hb,h]
theorem Grp.pw {T:List (List Int)} {n s:Nat} (G:Grp T n s) {e:Int} (he:El n e):∀ k,El n (pw T s e k)
 | 0=>G.s
 | k + 1=>G.bd (G.pw he k) he
theorem Grp.pwc {T:List (List Int)} {n s:Nat} (G:Grp T n s) {e:Int} (he:El n e):∀ k,tg T e (PV.pw T s e k)=PV.pw T s e (k + 1)
 | 0=>by show tg T e s=tg T s e;rw [G.r he,G.l he]
 | k + 1=>by
  show tg T e (tg T (PV.pw T s e k) e)=tg T (PV.pw T s e (k + 1)) e
  rw [← G.as he (G.pw he k) he,G.pwc he k]
theorem Grp.pwa {T:List (List Int)} {n s:Nat} (G:Grp T n s) {e:Int} (he:El n e) (i:Nat):∀ k,tg T (PV.pw T s e i) (PV.pw T s e k)=PV.pw T s e (i + k)
 | 0=>G.r (G.pw he i)
 | k + 1=>by
  show tg T (PV.pw T s e i) (tg T (PV.pw T s e k) e)=tg T (PV.pw T s e (i + k)) e
  rw [← G.as (G.pw he i) (G.pw he k) he,G.pwa he i k]
structure Od (T:List (List Int)) (s e:Int) (m:Nat):Prop where
 pos:1≤m
 is:pw T s e m=s
 low:∀ j,1≤j→j < m→pw T s e j≠s
theorem Grp.hole {T:List (List Int)} {n s:Nat} (G:Grp T n s) {e:Int} (he:El n e):∃ i j,i < j∧j≤n∧PV.pw T s e i=PV.pw T s e j:=by
 apply Classical.byContradiction
 intro hno
 have hnd:((List.range (n + 1)).map (PV.pw T s e)).Nodup:=by
  rw [List.Nodup,List.pairwise_map]
  refine List.Pairwise.imp_of_mem (R:=(· < ·)) (fun {a b} ha hb hab heq=>hno ⟨a,b,hab,?_,heq⟩) List.pairwise_lt_range
  have:=List.mem_range.mp hb
  omega
 have hsub:((List.range (n + 1)).map (PV.pw T s e)) ⊆ upto n:=fun y hy=>by
  obtain ⟨k,_,rfl⟩:=List.mem_map.mp hy
  exact mem_upto.mpr (G.pw he k)
 have:=hnd.length_le_of_subset hsub
 rw [upto_len] at this
 simp at this
 omega
theorem od_least {T:List (List Int)} {s e:Int}:∀ m,1≤m→pw T s e m=s→∃ k,k≤m∧Od T s e k:=by
 intro m
 induction m using Nat.strongRecOn with
 | ind m ih =>
  intro h1 h2
  by_cases hx:∃ j,1≤j∧j < m∧pw T s e j=s
  ·obtain ⟨j,j1,j2,j3⟩:=hx
   obtain ⟨k,k1,k2⟩:=ih j j2 j1 j3
   exact ⟨k,by omega,k2⟩
  ·exact ⟨m,Nat.le_refl _,h1,h2,fun j j1 j2 j3=>hx ⟨j,j1,j2,j3⟩⟩
theorem Grp.od {T:List (List Int)} {n s:Nat} (G:Grp T n s) {e:Int} (he:El n e):∃ m,m≤n∧Od T s e m:=by
 obtain ⟨i,j,hij,hj,h⟩:=G.hole he
 have h':=G.pwa he i (j - i)
 rw [show i + (j - i)=j by omega,← h] at h'
 have:=G.cl (G.pw he i) (G.pw he (j - i)) G.s (by rw [h',G.r (G.pw he i)])
 obtain ⟨k,k1,k2⟩:=od_least (j - i) (by omega) this
 exact ⟨k,by omega,k2⟩
theorem Od.uniq {T:List (List Int)} {s e:Int} {m k:Nat} (h:Od T s e m) (h':Od T s e k):m=k:=by
 rcases Nat.lt_trichotomy m k with h1 | h1 | h1
 ·exact absurd h.is (h'.low m h.pos h1)
 ·exact h1
 ·exact absurd h'.is (h.low k h'.pos h1)
end PV
set_option linter.all false
set_option Elab.async false
set_option maxHeartbeats 2000000
namespace PV
open PySem (Str)
theorem Grp.three {T:List (List Int)} {n s:Nat} (G:Grp T n s):threeOf T n=none:=by
 refine findSome_none fun a ha=>findSome_none fun b hb=>findSome_none fun c hc=>?_
 obtain ⟨a,a1,rfl⟩:=mem_rangeD ha
 obtain ⟨b,b1,rfl⟩:=mem_rangeD hb
 obtain ⟨c,c1,rfl⟩:=mem_rangeD hc
 unfold threeAt;dsimp only
 rw [if_pos (by rw [G.asc a b c (by omega) (by omega) (by omega) (by omega) (by omega) (by omega)];simp)]
theorem restAt_iff {T:List (List Int)} {n:Nat} {e:Int}:restAt T n e=true↔∀ a:Nat,a < n→tg T e a=a∧tg T a e=a:=by
 simp [restAt,List.all_eq_true]
theorem Grp.rest {T:List (List Int)} {n s:Nat} (G:Grp T n s):restOf T n=some (.int s):=by
 have hs:=G.lt
 refine findSome_first (p:=fun j=>restAt T n j) hs ?_ (fun j hj=>?_) fun j=>rfl
 ·exact restAt_iff.mpr fun a ha=>⟨G.idl a (by omega) (by omega),G.idr a (by omega) (by omega)⟩
 ·cases e:restAt T n j with
  | false=>rfl
  | true =>
   have h1:=(restAt_iff.mp e s hs).1
   have h2:=G.idr j (by omega) (by omega)
   omega
theorem Grp.back {T:List (List Int)} {n s:Nat} (G:Grp T n s) {a:Nat} (ha:a < n):∃ b:Nat,b < n∧backOf T n s a=some (.int b)∧tg T a b=s∧tg T b a=s:=by
 obtain ⟨b,b0,b1,h1,h2⟩:=G.inv a (by omega) (by omega)
 cases e:backOf T n s a with
 | none =>
  obtain ⟨b,b2,rfl⟩:=int_nat b0 b1
  have:=List.findSome?_eq_none_iff.mp e (.int b) (List.mem_of_getElem? (by rw [rangeD_get b2];simp))
  simp [intOf,backAt,h1,h2] at this
 | some r =>
  obtain ⟨c,c1,rfl,hc⟩:=backOf_shape e
  simp [backAt] at hc
  exact ⟨c,c1,rfl,hc.1,hc.2⟩
theorem Grp.flaw {T:List (List Int)} {n s:Nat} (G:Grp T n s):flawOf T n=.non:=by
 unfold flawOf
 rw [G.three,G.rest]
 have:backsOf T n (intOf (.int s))=none:=findSome_none fun d hd=>by
  obtain ⟨a,a1,rfl⟩:=mem_rangeD hd
  obtain ⟨b,_,e,_⟩:=G.back a1
  show (if (backOf T n s a).isSome=true then none else _)=none
  rw [e];rfl
 show (backsOf T n (intOf (.int s))).getD .non=.non
 rw [this];rfl
theorem ask_folk_eq {T:List (List Int)} {n s:Nat} (G:Grp T n s):φ_ask_folk [tabD T]=some .non:=by
 have s1:sDo (eCall φ_ask_table [(eVar 0)]) (enter 1 [tabD T])=some (.nx,enter 1 [tabD T]):=sDo_of ((eCall1 rfl).trans (ask_table_eq G.tab))
 have t1:tNoN (eCall φ_find_flaw [(eVar 0)]) (enter 1 [tabD T])=some false:=by rw [tNoN_of ((eCall1 rfl).trans (find_flaw_eq G.tab)),G.flaw];rfl
 exact run_nx rfl ((sSeq_nx s1).trans ((sIf_ff t1).trans sSkip_of))
theorem rest_eq {T:List (List Int)} {n s:Nat} (G:Grp T n s):φ_rest [tabD T]=some (.int s):=by
 have s1:sDo (eCall φ_ask_folk [(eVar 0)]) (enter 1 [tabD T])=some (.nx,enter 1 [tabD T]):=sDo_of ((eCall1 rfl).trans (ask_folk_eq G))
 have h:=find_rest_eq G.tab
 rw [G.rest] at h
 exact run_rt rfl ((sSeq_nx s1).trans (sRet_of ((eCall1 rfl).trans h)))
end PV
set_option linter.all false
set_option Elab.async false
set_option maxHeartbeats 2000000
namespace PV
open PySem (Str)
structure Rs (n:Nat) (r:List Int):Prop where
 el:∀ x ∈ r,El n x
 up:r.Pairwise (· < ·)
theorem Rs.nd {n:Nat} {r:List Int} (h:Rs n r):r.Nodup:=h.up.imp fun {x y} h e=>by omega
theorem nd_len {n:Nat} {r:List Int} (hn:r.Nodup) (h:∀ x ∈ r,El n x):r.length≤n:=by
 have:=hn.length_le_of_subset (l₂:=upto n) fun x hx=>mem_upto.mpr (h x hx)
 rwa [upto_len] at this
theorem Rs.len {n:Nat} {r:List Int} (h:Rs n r):r.length≤n:=nd_len h.nd h.el
theorem seen_few {n:Nat} {r:List Int} (h:∀ x ∈ r,El n x):(seen r).length≤n:=nd_len (seen_nd r) fun x hx=>h x (seen_mem.mp hx)
theorem rs_srt {n:Nat} {r:List Int} (h:∀ x ∈ r,El n x):Rs n (srt (seen r)):=⟨fun x hx=>h x (srt_seen_mem.mp hx),srt_seen_lt r⟩
theorem Rs.lt_len {n:Nat} {r q:List Int} (h:Rs n r) (k:Rs n q) (sub:∀ x ∈ r,x ∈ q) (hne:q≠r):r.length < q.length:=by
 rcases Nat.lt_or_ge r.length q.length with h1 | h1
 ·exact h1
 ·exfalso
  apply hne
  refine rise_ext k.up h.up fun x=>⟨fun hx=>?_,sub x⟩
  apply Classical.byContradiction
  intro hx'
  have hnd:(x::r).Nodup:=List.nodup_cons.mpr ⟨hx',h.nd⟩
  have:=hnd.length_le_of_subset (l₂:=q) fun y hy=>by
   rcases List.mem_cons.mp hy with rfl | hy
   ·exact hx
   ·exact sub y hy
  simp at this
  omega
def Cls (T:List (List Int)) (r:List Int):Prop:=∀ a ∈ r,∀ b ∈ r,tg T a b ∈ r
def Gen (T:List (List Int)) (s:Int) (S:List Int) (x:Int):Prop:=∀ C:Int→Prop,(∀ y ∈ S,C y)→C s→(∀ a b,C a→C b→C (tg T a b))→C x
theorem Gen.of {T:List (List Int)} {s:Int} {S:List Int} {x:Int} (h:x ∈ S):Gen T s S x:=fun C h1 _ _=>h1 x h
theorem Gen.rest {T:List (List Int)} {s:Int} {S:List Int}:Gen T s S s:=fun C _ h _=>h
theorem Gen.mul {T:List (List Int)} {s:Int} {S:List Int} {x y:Int} (h:Gen T s S x) (k:Gen T s S y):Gen T s S (tg T x y):=fun C h1 h2 h3=>h3 _ _ (h C h1 h2 h3) (k C h1 h2 h3)
structure Least (T:List (List Int)) (n:Nat) (s:Int) (S r:List Int):Prop where
 rs:Rs n r
 has:∀ x ∈ S,x ∈ r
 rest:s ∈ r
 cls:Cls T r
 gen:∀ x ∈ r,Gen T s S x
theorem Least.uniq {T:List (List Int)} {n:Nat} {s:Int} {S r q:List Int} (h:Least T n s S r) (k:Least T n s S q):r=q :=
 rise_ext h.rs.up k.rs.up fun x=>⟨fun hx=>h.gen x hx (· ∈ q) k.has k.rest fun a b ha hb=>k.cls a ha b hb,fun hx=>k.gen x hx (· ∈ r) h.has h.rest fun a b ha hb=>h.cls a ha b hb⟩
def mkAll (T:List (List Int)) (r:List Int):List Int:=srt (seen (r++r.flatMap fun a=>r.map fun b=>tg T a b))
theorem mem_mkAll {T:List (List Int)} {r:List Int} {x:Int}:x ∈ mkAll T r↔x ∈ r∨∃ a ∈ r,∃ b ∈ r,tg T a b=x:=by
 unfold mkAll
 rw [srt_seen_mem,List.mem_append,List.mem_flatMap]
 simp only [List.mem_map]
theorem flat_len {T:List (List Int)} {r:List Int}:∀ q:List Int,(q.flatMap fun a=>r.map fun b=>tg T a b).length=q.length * r.length
 | []=>by simp
 | a::q=>by rw [List.flatMap_cons,List.length_append,List.length_map,flat_len q,List.length_cons,Nat.succ_mul];omega
theorem all_el {T:List (List Int)} {n:Nat} (hT:Tab T n) {r:List Int} (hr:∀ x ∈ r,El n x):∀ x ∈ r++r.flatMap (fun a=>r.map fun b=>tg T a b),El n x:=fun x hx=>by
 rw [List.mem_append,List.mem_flatMap] at hx
 rcases hx with hx | ⟨a,ha,hx⟩
 ·exact hr x hx
 ·obtain ⟨b,hb,rfl⟩:=List.mem_map.mp hx
  have h1:=hr a ha
  have h2:=hr b hb
  exact hT.bound h1.1 h1.2 h2.1 h2.2
theorem with_all_made_eq {T:List (List Int)} {n:Nat} (hT:Tab T n) {r:List Int} (hr:∀ x ∈ r,El n x) (hl:r.length≤12):φ_with_all_made [tabD T,rowD r]=some (rowD (mkAll T r)):=by
 have hn:=hT.top
 have hm:r.length * r.length≤144:=Nat.mul_le_mul hl hl
 refine run_of rfl (wp_seq (wp_ownR (evR_listR (evR_of rfl ?_))))
 refine wp_seq (wp_forRow (r:=r) (fun k e=>∃ x y,e=[.sh (tabD T),.sh (rowD r),.ow ((r++(r.take k).flatMap fun a=>r.map fun b=>tg T a b).map .int),x,y]) (iOf_R rfl) ⟨_,_,by simp;rfl⟩ (fun k e x hx he=>?_) (fun e he=>?_))
 ·obtain ⟨_,_,rfl⟩:=he
  have hxr:=List.mem_of_getElem? hx
  have hk:=(List.getElem?_eq_some_iff.mp hx).1
  refine wp_extI (r:=r++(r.take k).flatMap fun a=>r.map fun b=>tg T a b) rfl (compR1 (r:=r) (fun b=>tg T x b) (iOf_R rfl) (by rw [lim_eq];omega) (fun b hb=>evI_ix2 hT rfl (evI_of rfl (evI_of rfl ⟨hr x hxr,hr b hb,rfl⟩))) ⟨?_,?_⟩)
  ·rw [List.length_append,flat_len,List.length_map,List.length_take]
   have:min k r.length * r.length≤144:=Nat.le_trans (Nat.mul_le_mul_right _ (Nat.min_le_right _ _)) hm
   omega
  ·rw [List.take_add_one,hx,List.flatMap_append,← List.append_assoc]
   simp only [Option.toList_some,List.flatMap_cons,List.flatMap_nil,List.append_nil]
   exact ⟨_,_,rfl⟩
 ·obtain ⟨_,_,rfl⟩:=he
  refine wp_ret (evR.ev (evR_sortset (evR_of rfl ⟨?_,?_,?_⟩)))
  ·rw [List.take_length,List.length_append,flat_len];omega
  ·rw [List.take_length]
   have:=seen_few (all_el hT hr)
   omega
  ·rw [List.take_length];rfl
theorem least_part_ex {T:List (List Int)} {n s:Nat} (G:Grp T n s) {S:List Int} (hS:∀ x ∈ S,El n x) (hl:S.length≤100):∃ r,φ_least_part [tabD T,rowD S]=some (rowD r)∧Least T n s S r:=by
 have hT:=G.tab
 have hn:=hT.top
 have he:∀ x ∈ S++[(s:Int)],El n x:=fun x hx=>by
  rcases List.mem_append.mp hx with hx | hx
  ·exact hS x hx
  ·simp at hx;subst hx;exact G.s
 have key:wp R_least_part (enter 4 [tabD T,rowD S]) (fun o _=>∃ r,o=.rt (rowD r)∧Least T n s S r):=by
  refine wp_seq (wp_setF (evR.ev (evR_sortset (evR_add (evR_of rfl (evR_lst1 (evI_of (d:=s) ((eCall1 rfl).trans ((find_rest_eq hT).trans (by rw [G.rest];rfl))) ⟨?_,?_,?_,?_⟩)))))))
  ·simp;omega
  ·simp;omega
  ·have:=seen_few he;omega
  refine wp_seq (wp_setF (ev_of ((eCall2 rfl rfl).trans (with_all_made_eq hT (rs_srt he).el (by have:=(rs_srt he).len;omega))) ?_))
  refine wp_seq (wp_while (N:=12) (fun k e=>∃ r,Rs n r∧(∀ x ∈ S,x ∈ r)∧(s:Int) ∈ r∧(∀ x ∈ r,Gen T s S x)∧k < r.length∧e=[.sh (tabD T),.sh (rowD S),.fr (rowD r),.fr (rowD (mkAll T r))]) (by omega) ?_ fun k e he=>?_)
  ·refine ⟨srt (seen (S++[(s:Int)])),rs_srt he,fun x hx=>srt_seen_mem.mpr (List.mem_append_left _ hx),srt_seen_mem.mpr (by simp),fun x hx=>?_,?_,rfl⟩
   ·rcases List.mem_append.mp (srt_seen_mem.mp hx) with hx | hx
    ·exact Gen.of hx
    ·simp at hx;subst hx;exact Gen.rest
   ·exact List.length_pos_of_mem (srt_seen_mem.mpr (show (s:Int) ∈ S++[(s:Int)] by simp))
  ·obtain ⟨r,hr,hs,h0,hg,hk,rfl⟩:=he
   have hw:Rs n (mkAll T r):=rs_srt (all_el hT hr.el)
   refine tv_neR (evR_of rfl (evR_of rfl ⟨fun h=>⟨?_,?_⟩,fun h=>?_⟩))
   ·have:=hr.len;omega
   ·have h:mkAll T r≠r:=by simpa using h
    have hlt:=hr.lt_len hw (fun x hx=>mem_mkAll.mpr (.inl hx)) h
    refine wp_seq (wp_setF (ev_of rfl (wp_setF (ev_of ((eCall2 rfl rfl).trans (with_all_made_eq hT hw.el (by have:=hw.len;omega))) ?_))))
    refine ⟨mkAll T r,hw,fun x hx=>mem_mkAll.mpr (.inl (hs x hx)),mem_mkAll.mpr (.inl h0),fun x hx=>?_,by omega,rfl⟩
    rcases mem_mkAll.mp hx with hx | ⟨a,ha,b,hb,rfl⟩
    ·exact hg x hx
    ·exact (hg a ha).mul (hg b hb)
   ·have h:mkAll T r=r:=by simpa using h
    refine wp_ret (ev_of rfl ⟨r,rfl,hr,hs,h0,fun a ha b hb=>?_,hg⟩)
    rw [← h]
    exact mem_mkAll.mpr (.inr ⟨a,ha,b,hb,rfl⟩)
 obtain ⟨o,e,h1,r,rfl,h2⟩:=key
 exact ⟨r,run_rt rfl h1,h2⟩
end PV
set_option linter.all false
set_option Elab.async false
set_option maxHeartbeats 2000000
namespace PV
open PySem (Str)
def kdB (T:List (List Int)) (n:Nat) (x y:Int):Bool:=(upto n).any fun a=>decide (tg T a x=tg T y a)
theorem kdB_iff {T:List (List Int)} {n:Nat} {x y:Int}:kdB T n x y=true↔∃ a,El n a∧tg T a x=tg T y a:=by
 simp only [kdB,List.any_eq_true,decide_eq_true_eq]
 exact ⟨fun ⟨a,h1,h2⟩=>⟨a,mem_upto.mp h1,h2⟩,fun ⟨a,h1,h2⟩=>⟨a,mem_upto.mpr h1,h2⟩⟩
def kindL (T:List (List Int)) (n:Nat) (x:Int):List Int:=(upto n).filter fun y=>kdB T n x y
theorem upto_up (n:Nat):(upto n).Pairwise (· < ·):=by
 unfold upto
 exact List.Pairwise.map _ (fun a b (h:a < b)=>by simp only [Int.ofNat_eq_natCast];omega) List.pairwise_lt_range
theorem mem_kindL {T:List (List Int)} {n:Nat} {x y:Int}:y ∈ kindL T n x↔El n y∧∃ a,El n a∧tg T a x=tg T y a:=by
 rw [kindL,List.mem_filter,mem_upto,kdB_iff];rfl
theorem kindL_up (T:List (List Int)) (n:Nat) (x:Int):(kindL T n x).Pairwise (· < ·):=(upto_up n).filter _
theorem Grp.kd_refl {T:List (List Int)} {n s:Nat} (G:Grp T n s) {x:Int} (hx:El n x):x ∈ kindL T n x:=mem_kindL.mpr ⟨hx,s,G.s,by rw [G.l hx,G.r hx]⟩
theorem Grp.kd_symm {T:List (List Int)} {n s:Nat} (G:Grp T n s) {x y:Int} (hx:El n x) (h:y ∈ kindL T n x):x ∈ kindL T n y:=by
 obtain ⟨hy,a,ha,e⟩:=mem_kindL.mp h
 obtain ⟨b,hb,h1,h2⟩:=G.i ha
 refine mem_kindL.mpr ⟨hx,b,hb,?_⟩
 have:tg T (tg T b y) a=tg T (tg T x b) a:=by
  rw [G.as hb hy ha,← e,← G.as hb ha hx,h2,G.l hx,G.as hx hb ha,h2,G.r hx]
 exact G.cr ha (G.bd hb hy) (G.bd hx hb) this
theorem Grp.kd_trans {T:List (List Int)} {n s:Nat} (G:Grp T n s) {x y z:Int} (hx:El n x) (h:y ∈ kindL T n x) (k:z ∈ kindL T n y):z ∈ kindL T n x:=by
 obtain ⟨hy,a,ha,e⟩:=mem_kindL.mp h
 obtain ⟨hz,b,hb,e2⟩:=mem_kindL.mp k
 exact mem_kindL.mpr ⟨hz,tg T b a,G.bd hb ha,by rw [G.as hb ha hx,e,← G.as hb hy ha,e2,G.as hz hb ha]⟩
theorem Grp.kd_eq {T:List (List Int)} {n s:Nat} (G:Grp T n s) {x y:Int} (hx:El n x) (h:y ∈ kindL T n x):kindL T n y=kindL T n x:=by
 have hy:=(mem_kindL.mp h).1
 exact rise_ext (kindL_up T n y) (kindL_up T n x) fun z=>⟨fun hz=>G.kd_trans hx h hz,fun hz=>G.kd_trans hy (G.kd_symm hx h) hz⟩
def ldB (T:List (List Int)) (n:Nat) (x:Int):Bool:=decide ((kindL T n x).getD 0 0=x)
theorem Grp.kd_pos {T:List (List Int)} {n s:Nat} (G:Grp T n s) {x:Int} (hx:El n x):0 < (kindL T n x).length:=List.length_pos_of_mem (G.kd_refl hx)
theorem head_le {r:List Int} (h:r.Pairwise (· < ·)) {y:Int} (hy:y ∈ r):r.getD 0 0≤y:=by
 cases r with
 | nil=>simp at hy
 | cons a r =>
  rcases List.mem_cons.mp hy with rfl | hy
  ·simp
  ·have:=(List.pairwise_cons.mp h).1 y hy
   simp;omega
theorem head_mem {r:List Int} (h:0 < r.length):r.getD 0 0 ∈ r:=by
 cases r with
 | nil=>simp at h
 | cons a r=>simp
theorem Grp.ld_iff {T:List (List Int)} {n s:Nat} (G:Grp T n s) {x:Int} (hx:El n x):ldB T n x=true↔∀ y ∈ kindL T n x,x≤y:=by
 unfold ldB
 rw [decide_eq_true_eq]
 constructor
 ·intro h y hy
  rw [← h];exact head_le (kindL_up T n x) hy
 ·intro h
  have h1:=h _ (head_mem (G.kd_pos hx))
  have h2:=head_le (kindL_up T n x) (G.kd_refl hx)
  omega
def kindsL (T:List (List Int)) (n m:Nat):List (List Int):=((upto m).filter fun x=>ldB T n x).map (kindL T n)
theorem upto_succ (m:Nat):upto (m + 1)=upto m++[(m:Int)]:=by simp [upto,List.range_succ]
theorem Grp.met {T:List (List Int)} {n s:Nat} (G:Grp T n s) {m:Nat} (hm:m < n):kindL T n m ∈ kindsL T n m↔ldB T n m=false:=by
 have hme:=El.of hm
 unfold kindsL
 rw [List.mem_map]
 constructor
 ·rintro ⟨x,hx,e⟩
  rw [List.mem_filter,mem_upto] at hx
  have hxe:El n x:=⟨hx.1.1,by omega⟩
  have hk:x ∈ kindL T n m:=by rw [← e];exact G.kd_refl hxe
  cases hl:ldB T n m with
  | false=>rfl
  | true=>have:=(G.ld_iff hme).mp hl x hk;omega
 ·intro h
  have h0:=head_mem (G.kd_pos hme)
  have h1:=head_le (kindL_up T n m) (G.kd_refl hme)
  have hne:(kindL T n m).getD 0 0≠m:=by simpa [ldB] using h
  obtain ⟨x,ex⟩:∃ x,x=(kindL T n m).getD 0 0:=⟨_,rfl⟩
  rw [← ex] at h0 h1 hne
  have hxe:=(mem_kindL.mp h0).1
  have ek:=G.kd_eq hme h0
  refine ⟨x,?_,ek⟩
  rw [List.mem_filter,mem_upto]
  refine ⟨⟨hxe.1,by omega⟩,(G.ld_iff hxe).mpr fun y hy=>?_⟩
  rw [ek] at hy
  have h2:=head_le (kindL_up T n m) hy
  omega
theorem leL_head {a b:List Int} (ha:0 < a.length) (hb:0 < b.length) (h:a.getD 0 0 < b.getD 0 0):leL a b:=by
 cases a with
 | nil=>simp at ha
 | cons x a =>
  cases b with
  | nil=>simp at hb
  | cons y b =>
   simp at h
   refine leL.of ?_
   simp only [ltL]
   rw [if_neg (by omega)]
   exact decide_eq_true h
def midB (T:List (List Int)) (n:Nat) (x:Int):Bool:=(upto n).all fun a=>decide (tg T x a=tg T a x)
def midL (T:List (List Int)) (n:Nat):List Int:=(upto n).filter fun x=>midB T n x
theorem midB_iff {T:List (List Int)} {n:Nat} {x:Int}:midB T n x=true↔∀ a,El n a→tg T x a=tg T a x:=by
 simp only [midB,List.all_eq_true,decide_eq_true_eq]
 exact ⟨fun h a ha=>h a (mem_upto.mpr ha),fun h a ha=>h a (mem_upto.mp ha)⟩
theorem Prm.perm {nm:List Int} {n:Nat} (h:Prm nm n):nm.Perm (upto n):=by
 refine (List.perm_ext_iff_of_nodup h.nd (upto_nd n)).mpr fun x=>⟨fun hx=>mem_upto.mpr (h.bd x hx),fun hx=>?_⟩
 have:=mem_upto.mp hx
 obtain ⟨a,a0,a1,e⟩:=h.onto this.1 this.2
 rw [← e]
 exact at1_mem a0 (by rw [h.len];exact a1)
theorem Prm.map {nm:List Int} {n:Nat} (h:Prm nm n):(upto n).map (at1 nm)=nm:=by
 apply List.ext_getElem
 ·rw [List.length_map,upto_len,h.len]
 ·intro i h1 h2
  simp [upto,at1,List.getD,h2]
theorem same_behind_eq {T:List (List Int)} {n s:Nat} (G:Grp T n s) {x:Int} (hx:El n x):φ_makes_the_same_behind [tabD T,.int x]=some (.bl (midB T n x)):=by
 have hn:=G.tab.top
 refine run_of rfl (wp_ret ?_)
 obtain ⟨d,h1,k,rfl,h2⟩:=tv_allR (i:=2) (e:=eB (tEq (eIx (eIx (eVar 0) (eVar 1)) (eVar 2)) (eIx (eIx (eVar 0) (eVar 2)) (eVar 1)))) (env:=enter 3 [tabD T,.int x]) (it:=iRng (eF1 fLen (eVar 0))) (P:=(·=midB T n x)) (r:=upto n) (fun a=>decide (tg T x a=tg T a x)) (iRng_upto (eF1_len G.tab rfl) (by omega)) (by rw [upto_len,lim_eq];omega) (fun a ha=>by
  have ha:=mem_upto.mp ha
  exact ev_B (tv_eqI (evI_ix2 G.tab rfl (evI_of rfl (evI_of rfl ⟨hx,ha,evI_ix2 G.tab rfl (evI_of rfl (evI_of rfl ⟨ha,hx,rfl⟩))⟩))))) rfl
 exact ⟨_,h1,by subst h2;rfl⟩
theorem middle_eq {T:List (List Int)} {n s:Nat} (G:Grp T n s):φ_middle [tabD T]=some (rowD (midL T n)):=by
 have hn:=G.tab.top
 refine run_of rfl (wp_seq (wp_do (ev_of ((eCall1 rfl).trans (ask_folk_eq G)) ?_)))
 refine wp_ret (evR.ev (evR_fl (compR (r:=upto n) (fun y=>midB T n y) (fun y=>y) (iRng_upto (eF1_len G.tab rfl) (by omega)) (by rw [upto_len,lim_eq];omega) (fun y hy=>tv_B (ev_of ((eCall2 rfl rfl).trans (same_behind_eq G (mem_upto.mp hy))) ⟨_,rfl,rfl⟩)) (fun y hy _=>evI_of rfl rfl) ?_)))
 rw [List.map_id'];rfl
end PV
set_option linter.all false
set_option Elab.async false
set_option maxHeartbeats 2000000
namespace PV
open PySem (Str)
structure Sg (T:List (List Int)) (n:Nat) (s:Int) (r:List Int):Prop where
 rs:Rs n r
 rest:s ∈ r
 cls:Cls T r
theorem Least.sg {T:List (List Int)} {n:Nat} {s:Int} {S r:List Int} (h:Least T n s S r):Sg T n s r:=⟨h.rs,h.rest,h.cls⟩
theorem Sg.least {T:List (List Int)} {n:Nat} {s:Int} {r:List Int} (h:Sg T n s r):Least T n s r r:=⟨h.rs,fun x hx=>hx,h.rest,h.cls,fun x hx=>Gen.of hx⟩
theorem Gen.thru {T:List (List Int)} {s:Int} {S S':List Int} {x:Int} (h:Gen T s S x) (k:∀ y ∈ S,Gen T s S' y):Gen T s S' x:=fun C h1 h2 h3=>h C (fun y hy=>k y hy C h1 h2 h3) h2 h3
def clM (B:List (List Int)) (n m:Nat):Bool:=(List.range n).all fun a=>!m.testBit a || (List.range n).all fun b=>!m.testBit b || m.testBit (tg B a b).toNat
def cntM (B:List (List Int)):Bool:=Nat.blt ((List.range (2 ^ B.length)).filter fun m=>m.testBit 0 && clM B B.length m).length 64
theorem cnt_all:(List.range 24).all (fun k=>cntM (baseL.getD k []))=true:=by decide +kernel
theorem mask_ex (p:Nat→Bool):∀ n,∃ m,m < 2 ^ n∧∀ a,a < n→m.testBit a=p a
 | 0=>⟨0,by simp,by omega⟩
 | n + 1=>by
  obtain ⟨m,h1,h2⟩:=mask_ex p n
  cases hp:p n with
  | false =>
   refine ⟨m,by rw [Nat.pow_succ];omega,fun a ha=>?_⟩
   rcases Nat.lt_or_ge a n with h | h
   ·exact h2 a h
   ·have:a=n:=by omega
    subst this;rw [hp];exact Nat.testBit_lt_two_pow h1
  | true =>
   refine ⟨2 ^ n + m,by rw [Nat.pow_succ];omega,fun a ha=>?_⟩
   rcases Nat.lt_or_ge a n with h | h
   ·rw [Nat.testBit_two_pow_add_gt h];exact h2 a h
   ·have:a=n:=by omega
    subst this;rw [Nat.testBit_two_pow_add_eq,Nat.testBit_lt_two_pow h1,hp];rfl
def Few (T:List (List Int)) (n:Nat) (s:Int):Prop:=∀ P:List (List Int),P.Nodup→(∀ r ∈ P,Sg T n s r)→P.length < 64
theorem law_folk_grpP (ns:List Int) (f:Nat):∃ (n s:Nat) (T:List (List Int)),φ_law_folk_by [rowD ns,.int f]=some (tabD T)∧Grp T n s∧Few T n s:=by
 obtain ⟨k,n,T,nm,hk,e,tb,hT,hp,hI⟩:=law_folk_by_ex ns f
 have G:=base_grp hk
 have hb:cntM (baseT k)=true:=by rw [base_lit hk];exact List.all_eq_true.mp cnt_all k (List.mem_range.mpr hk)
 unfold cntM at hb
 rw [tb.len] at G hb
 obtain ⟨s',es,G'⟩:=G.ren hT hp hI
 refine ⟨n,s',T,e,G',fun P nd hP=>?_⟩
 have hn:=hT.pos
 obtain ⟨M,hM⟩:=Classical.axiomOfChoice fun r:List Int=>mask_ex (fun a=>decide (at1 nm a ∈ r)) n
 have n1:(P.map M).Nodup:=by
  unfold List.Nodup
  rw [List.pairwise_map]
  refine List.Pairwise.imp_of_mem (R:=(·≠·)) (fun {r q} hr hq hne he=>hne ?_) nd
  have key:∀ {r q:List Int},Sg T n s' r→M r=M q→∀ x ∈ r,x ∈ q:=fun {r q} hr he x hx=>by
   have hel:=hr.rs.el x hx
   obtain ⟨a,a0,a1,rfl⟩:=hp.onto hel.1 hel.2
   obtain ⟨b,hb1,rfl⟩:=int_nat a0 a1
   have h1:=(hM r).2 b hb1
   rw [he,(hM q).2 b hb1] at h1
   have:decide (at1 nm b ∈ r)=true:=decide_eq_true hx
   rw [this] at h1
   exact of_decide_eq_true h1
  exact rise_ext (hP r hr).rs.up (hP q hq).rs.up fun x=>⟨key (hP r hr) he x,key (hP q hq) he.symm x⟩
 have n2:=n1.length_le_of_subset (l₂:=(List.range (2 ^ n)).filter fun m=>m.testBit 0 && clM (baseT k) n m) fun m hm=>by
  obtain ⟨r,hr,rfl⟩:=List.mem_map.mp hm
  have hS:=hP r hr
  rw [List.mem_filter,Bool.and_eq_true]
  refine ⟨List.mem_range.mpr (hM r).1,?_,?_⟩
  ·rw [(hM r).2 0 hn]
   refine decide_eq_true ?_
   have:=hS.rest
   rw [es] at this
   exact this
  ·unfold clM
   rw [List.all_eq_true]
   intro a ha
   have ha:=List.mem_range.mp ha
   rw [(hM r).2 a ha]
   by_cases h1:at1 nm a ∈ r
   ·rw [decide_eq_true h1]
    show (false || _)=true
    rw [Bool.false_or,List.all_eq_true]
    intro b hb
    have hb:=List.mem_range.mp hb
    rw [(hM r).2 b hb]
    by_cases h2:at1 nm b ∈ r
    ·rw [decide_eq_true h2]
     show (false || _)=true
     rw [Bool.false_or]
     have h3:=hS.cls _ h1 _ h2
     rw [hI a b (by omega) (by omega) (by omega) (by omega)] at h3
     obtain ⟨c,hc,ec⟩:=(G.bd (El.of ha) (El.of hb)).nat
     rw [ec] at h3 ⊢
     rw [Int.toNat_natCast,(hM r).2 c hc]
     exact decide_eq_true h3
    ·rw [decide_eq_false h2];rfl
   ·rw [decide_eq_false h1];rfl
 have h3:=Nat.blt_eq.mp hb
 rw [List.length_map] at n2
 omega
end PV
set_option linter.all false
set_option Elab.async false
set_option maxHeartbeats 2000000
namespace PV
open PySem (Str)
def keyL (r:List Int):List Int:=(r.length:Int)::r
theorem keyL_inj {r q:List Int} (h:keyL r=keyL q):r=q:=(List.cons.inj h).2
theorem insB_map {α β:Type} (k:β→List Int) (g:α→β) (x:α):∀ l:List α,insB k (g x) (l.map g)=(insB (fun a=>k (g a)) x l).map g
 | []=>rfl
 | y::l=>by
  simp only [List.map_cons,insB]
  split
  ·rw [List.map_cons,insB_map k g x l]
  ·rfl
theorem srtB_map {α β:Type} (k:β→List Int) (g:α→β):∀ l:List α,srtB k (l.map g)=(srtB (fun a=>k (g a)) l).map g
 | []=>rfl
 | x::l=>by simp only [List.map_cons,srtB];rw [srtB_map k g l,insB_map]
theorem fewest_first_eq (r:List Int):φ_fewest_first [rowD r]=some (.tup [.int r.length,rowD r]):=by
 refine run_of rfl (wp_ret (ev_of ?_ rfl))
 have e1:eF1 fLen (eVar 0) (enter 1 [rowD r])=some (.int r.length):=(evI_lenR (P:=(·=(r.length:Int))) (evR_of (d:=r) rfl rfl)).eq
 show eTup [eF1 fLen (eVar 0),eVar 0] (enter 1 [rowD r])=_
 simp only [eTup,evs,e1]
 rfl
theorem keys_rows:∀ l:List (List Int),keysD φ_fewest_first (l.map rowD)=some (l.map fun r=>(keyL r,rowD r))
 | []=>rfl
 | r::l=>by
  rw [List.map_cons,keysD,fewest_first_eq,keys_rows l]
  simp only [keyD,rowD,ints_map]
  rfl
theorem sortK_rows {l:List (List Int)} (h64:l.length < 64) (nd:l.Nodup):fSortK φ_fewest_first (.lst (l.map rowD))=some (tabD (srtB keyL l)):=by
 have e1:(l.map fun r=>(keyL r,rowD r)).length < 64∧((l.map fun r=>(keyL r,rowD r)).map (·.1)).Nodup:=by
  refine ⟨by rw [List.length_map];exact h64,?_⟩
  rw [List.map_map]
  unfold List.Nodup
  rw [List.pairwise_map]
  exact nd.imp fun {a b} h e=>h (keyL_inj e)
 simp only [fSortK,keys_rows,if_pos e1]
 rw [srtB_map (fun p:List Int × D=>p.1) (fun r=>(keyL r,rowD r)) l,List.map_map]
 rfl
structure PsOk (T:List (List Int)) (n:Nat) (s:Int) (f:List (List Int)):Prop where
 nd:f.Nodup
 sg:∀ r ∈ f,Sg T n s r
theorem parts_ex {T : List (List Int)} {n s : Nat} (G : Grp T n s) (few : Few T n s) : ∃ P, φ_parts [tabD T] = some (tabD P) ∧ P.Nodup ∧ (∀ r, r ∈ P ↔ Sg T n s r) ∧ P.Pairwise fun a b => leL (keyL a) (keyL b) := by
  have hT := G.tab
  have hn := hT.top
  obtain ⟨r0, e0, L0⟩ := least_part_ex G (S := []) (by simp) (by simp)
  have key : wp R_parts (enter 5 [tabD T]) (fun o _ => ∃ P, o = .rt (tabD P) ∧ P.Nodup ∧ (∀ r, r ∈ P ↔ Sg T n s r) ∧ P.Pairwise fun a b => leL (keyL a) (keyL b)) := by
    refine wp_seq (wp_do (ev_of ((eCall1 rfl).trans (ask_folk_eq G)) ?_))
    refine wp_seq (wp_new (ev_lst1 (ev_of ((eCall2 (x := tabD T) (y := rowD []) rfl rfl).trans e0) ⟨_, rfl, ?_⟩)))
    refine wp_seq (wp_forR (n := n) (fun k e => ∃ f x y z, PsOk T n s f ∧ (∀ S r, Rs n S → (∀ x ∈ S, x < (k : Int)) → Least T n s S r → r ∈ f) ∧ e = [.sh (tabD T), .nw (f.map rowD), x, y, z]) (iRng_of (eF1_len hT rfl) (by omega)) ⟨[r0], _, _, _, ⟨by simp, by simp; exact L0.sg⟩, fun S r hS hx hL => ?_, rfl⟩ (fun k e hk he => ?_) (fun e he => ?_))
    · have : S = [] := by
        cases S with
        | nil => rfl
        | cons a S => have h1 := hx a (by simp); have h2 := (hS.el a (by simp)).1; omega
      subst this
      simp [L0.uniq hL]
    · obtain ⟨f, _, _, _, hf, hc, rfl⟩ := he
      have hfl := few f hf.nd hf.sg
      refine wp_forTab (r := f) (fun j e => ∃ f' y z, PsOk T n s f' ∧ (∀ r ∈ f, r ∈ f') ∧ (∀ p ∈ f.take j, ∀ r, Least T n s (p ++ [(k : Int)]) r → r ∈ f') ∧ e = [.sh (tabD T), .nw (f'.map rowD), .sh (.int k), y, z]) (iOf_T rfl) ⟨f, _, _, hf, fun r h => h, by simp, rfl⟩ (fun j e p hp he => ?_) (fun e he => ?_)
      · obtain ⟨f', _, _, hf', hsub, hc', rfl⟩ := he
        have hps := hf.sg p (List.mem_of_getElem? hp)
        have hpl := hps.rs.len
        have hfl' := few f' hf'.nd hf'.sg
        obtain ⟨w, ew, Lw⟩ := least_part_ex G (S := p ++ [(k : Int)]) (fun x hx => by
          rcases List.mem_append.mp hx with hx | hx
          · exact hps.rs.el x hx
          · simp at hx; subst hx; exact El.of hk) (by simp; omega)
        refine wp_seq (wp_setF (ev_call2 (ev_of rfl (evR.ev (evR_add (evR_of rfl (evR_lst1 (evI_of rfl ⟨by simp; omega, _, ew, ?_⟩))))))))
        have nxt : ∀ f2 : List (List Int), (∀ r ∈ f', r ∈ f2) → w ∈ f2 → ∀ q ∈ f.take (j + 1), ∀ r, Least T n s (q ++ [(k : Int)]) r → r ∈ f2 := fun f2 h1 h2 q hq r hr => by
          rw [List.take_add_one, hp, List.mem_append] at hq
          rcases hq with hq | hq
          · exact h1 r (hc' q hq r hr)
          · simp at hq; subst hq; rw [hr.uniq Lw]; exact h2
        refine wp_if (tv_niT (evR_of rfl (evT_of rfl ⟨fun h => ?_, fun h => ?_⟩)))
        · have h : w ∉ f' := by simpa using h
          refine wp_appN rfl (ev_of rfl ⟨by rw [List.length_map, lim_eq]; omega, f' ++ [w], _, _, ⟨?_, ?_⟩, fun r hr => List.mem_append_left _ (hsub r hr), nxt _ (fun r hr => List.mem_append_left _ hr) (by simp), by rw [List.map_append]; rfl⟩)
          · rw [List.nodup_append]
            refine ⟨hf'.nd, by simp, fun a ha b hb => ?_⟩
            simp at hb; subst hb
            rintro rfl
            exact h ha
          · intro r hr
            rcases List.mem_append.mp hr with hr | hr
            · exact hf'.sg r hr
            · simp at hr; subst hr; exact Lw.sg
        · have h : w ∈ f' := by simpa using h
          exact wp_skip ⟨f', _, _, hf', hsub, nxt f' (fun r hr => hr) h, rfl⟩
      · obtain ⟨f', _, _, hf', hsub, hc', rfl⟩ := he
        rw [List.take_length] at hc'
        refine ⟨f', _, _, _, hf', fun S r hS hx hL => ?_, rfl⟩
        by_cases hkS : (k : Int) ∈ S
        · have hS0 : Rs n (S.filter fun x => decide (x < (k : Int))) := ⟨fun x hx => hS.el x (List.mem_filter.mp hx).1, hS.up.filter _⟩
          have hlen := hS0.len
          obtain ⟨q, _, Lq⟩ := least_part_ex G (S := S.filter fun x => decide (x < (k : Int))) hS0.el (by omega)
          have hq := hc _ q hS0 (fun x hx => by simpa using (List.mem_filter.mp hx).2) Lq
          obtain ⟨w, _, Lw⟩ := least_part_ex G (S := q ++ [(k : Int)]) (fun x hx => by
            rcases List.mem_append.mp hx with hx | hx
            · exact Lq.rs.el x hx
            · simp at hx; subst hx; exact El.of hk) (by have := Lq.rs.len; simp; omega)
          have : Least T n s S w := by
            refine ⟨Lw.rs, fun x hx' => ?_, Lw.rest, Lw.cls, fun x hx' => (Lw.gen x hx').thru fun y hy => ?_⟩
            · rcases Int.lt_or_le x k with h1 | h1
              · exact Lw.has x (List.mem_append_left _ (Lq.has x (List.mem_filter.mpr ⟨hx', by simpa using h1⟩)))
              · have := hx x hx'
                have : x = k := by omega
                subst this
                exact Lw.has _ (by simp)
            · rcases List.mem_append.mp hy with hy | hy
              · exact (Lq.gen y hy).thru fun z hz => Gen.of (List.mem_filter.mp hz).1
              · simp at hy; subst hy; exact Gen.of hkS
          rw [hL.uniq this]
          exact hc' q hq w Lw
        · exact hsub r (hc S r hS (fun x hx' => by
            have := hx x hx'
            rcases Int.lt_or_le x k with h1 | h1
            · exact h1
            · have : x = k := by omega
              subst this
              exact absurd hx' hkS) hL)
    · obtain ⟨f, _, _, _, hf, hc, rfl⟩ := he
      have hfl := few f hf.nd hf.sg
      refine wp_ret (ev_of (show eF1 (fSortK φ_fewest_first) (eVarW 1) _ = _ from sortK_rows hfl hf.nd) ⟨_, rfl, (srtB_perm _ _).nodup_iff.mpr hf.nd, fun r => ?_, srtB_up _ _⟩)
      rw [(srtB_perm _ _).mem_iff]
      exact ⟨fun h => hf.sg r h, fun h => hc r r h.rs (fun x hx => (h.rs.el x hx).2) h.least⟩
  obtain ⟨o, e, h1, P, rfl, h2⟩ := key
  exact ⟨P, run_rt rfl h1, h2⟩
end PV
set_option linter.all false
set_option Elab.async false
set_option maxHeartbeats 2000000
namespace PV
open PySem (Str)
theorem Sg.inv {T:List (List Int)} {n s:Nat} (G:Grp T n s) {r:List Int} (h:Sg T n s r) {a b:Int} (ha:a ∈ r) (hb:El n b) (e:tg T a b=s):b ∈ r:=by
 have hae:=h.rs.el a ha
 obtain ⟨m,_,hO⟩:=G.od hae
 have hp:∀ j,pw T s a j ∈ r:=by
  intro j
  induction j with
  | zero=>exact h.rest
  | succ j ih=>exact h.cls _ ih _ ha
 have h1:tg T a (pw T s a (m - 1))=s:=by rw [G.pwc hae,show m - 1 + 1=m by have:=hO.pos;omega,hO.is]
 rw [G.cl hae hb (G.pw hae _) (e.trans h1.symm)]
 exact hp _
def shareL (T:List (List Int)) (r:List Int) (x:Int):List Int:=srt (r.map fun y=>tg T x y)
theorem mem_shareL {T:List (List Int)} {r:List Int} {x z:Int}:z ∈ shareL T r x↔∃ y ∈ r,tg T x y=z:=by
 unfold shareL
 rw [(srt_perm _).mem_iff,List.mem_map]
theorem shareL_len (T:List (List Int)) (r:List Int) (x:Int):(shareL T r x).length=r.length:=by
 unfold shareL;rw [(srt_perm _).length_eq,List.length_map]
section
variable {T:List (List Int)} {n s:Nat} {r:List Int}
theorem Sg.sh_up (G:Grp T n s) (h:Sg T n s r) {x:Int} (hx:El n x):(shareL T r x).Pairwise (· < ·):=by
 refine rise_of (srt_le _) ((srt_perm _).nodup_iff.mpr ?_)
 unfold List.Nodup
 rw [List.pairwise_map]
 exact List.Pairwise.imp_of_mem (R:=(·≠·)) (fun {a b} ha hb hne e=>hne (G.cl hx (h.rs.el a ha) (h.rs.el b hb) e)) h.rs.nd
theorem Sg.sh_el (G:Grp T n s) (h:Sg T n s r) {x z:Int} (hx:El n x) (hz:z ∈ shareL T r x):El n z:=by
 obtain ⟨y,hy,rfl⟩:=mem_shareL.mp hz
 exact G.bd hx (h.rs.el y hy)
theorem Sg.sh_refl (G:Grp T n s) (h:Sg T n s r) {x:Int} (hx:El n x):x ∈ shareL T r x:=mem_shareL.mpr ⟨s,h.rest,G.r hx⟩
theorem Sg.sh_eq (G:Grp T n s) (h:Sg T n s r) {x z:Int} (hx:El n x) (hz:z ∈ shareL T r x):shareL T r z=shareL T r x:=by
 have hze:=h.sh_el G hx hz
 obtain ⟨y,hy,rfl⟩:=mem_shareL.mp hz
 have hye:=h.rs.el y hy
 refine rise_ext (h.sh_up G hze) (h.sh_up G hx) fun w=>?_
 rw [mem_shareL,mem_shareL]
 constructor
 ·rintro ⟨u,hu,rfl⟩
  exact ⟨tg T y u,h.cls y hy u hu,(G.as hx hye (h.rs.el u hu)).symm⟩
 ·rintro ⟨u,hu,rfl⟩
  obtain ⟨b,hb,h1,h2⟩:=G.i hye
  have hbr:=h.inv G hy hb h1
  have hue:=h.rs.el u hu
  refine ⟨tg T b u,h.cls b hbr u hu,?_⟩
  rw [G.as hx hye (G.bd hb hue),← G.as hye hb hue,h1,G.l hue]
theorem Sg.pos (h:Sg T n s r):0 < r.length:=List.length_pos_of_mem h.rest
def ldS (T:List (List Int)) (r:List Int) (x:Int):Bool:=decide ((shareL T r x).getD 0 0=x)
theorem Sg.lead (G:Grp T n s) (h:Sg T n s r) {x:Int} (hx:El n x):∃ z,El n z∧ldS T r z=true∧shareL T r z=shareL T r x:=by
 have h0:(shareL T r x).getD 0 0 ∈ shareL T r x:=head_mem (by rw [shareL_len];exact h.pos)
 have e:=h.sh_eq G hx h0
 exact ⟨_,h.sh_el G hx h0,by unfold ldS;rw [e];simp,e⟩
theorem ld_inj {x y:Int} (hx:ldS T r x=true) (hy:ldS T r y=true) (e:shareL T r x=shareL T r y):x=y:=by
 have h1:(shareL T r x).getD 0 0=x:=of_decide_eq_true hx
 have h2:(shareL T r y).getD 0 0=y:=of_decide_eq_true hy
 rw [← h1,← h2,e]
def sharesL (T:List (List Int)) (r:List Int) (m:Nat):List (List Int):=((upto m).filter fun x=>ldS T r x).map (shareL T r)
theorem sharesL_succ (T:List (List Int)) (r:List Int) (m:Nat):sharesL T r (m + 1)=sharesL T r m++(if ldS T r m then [shareL T r m] else []):=by
 unfold sharesL
 rw [upto_succ,List.filter_append,List.map_append]
 by_cases h:ldS T r m=true
 ·simp [h]
 ·simp [h]
theorem sharesL_len (T:List (List Int)) (r:List Int) (m:Nat):(sharesL T r m).length≤m:=by
 unfold sharesL
 rw [List.length_map]
 have:=List.length_filter_le (fun x=>ldS T r x) (upto m)
 rw [upto_len] at this;exact this
theorem mem_sharesL {q:List Int}:q ∈ sharesL T r n↔∃ x,El n x∧ldS T r x=true∧shareL T r x=q:=by
 unfold sharesL
 rw [List.mem_map]
 constructor
 ·rintro ⟨x,hx,e⟩
  rw [List.mem_filter,mem_upto] at hx
  exact ⟨x,hx.1,hx.2,e⟩
 ·rintro ⟨x,h1,h2,e⟩
  exact ⟨x,List.mem_filter.mpr ⟨mem_upto.mpr h1,h2⟩,e⟩
theorem Sg.sh_up2 (G:Grp T n s) (h:Sg T n s r):(sharesL T r n).Pairwise fun a b=>leL a b∧a≠b∧∀ z,z ∈ a→z ∉ b:=by
 unfold sharesL
 rw [List.pairwise_map]
 refine List.Pairwise.imp_of_mem (R:=(· < ·)) (fun {a b} ha hb hab=>?_) ((upto_up n).filter _)
 rw [List.mem_filter,mem_upto] at ha hb
 have ea:(shareL T r a).getD 0 0=a:=of_decide_eq_true ha.2
 have eb:(shareL T r b).getD 0 0=b:=of_decide_eq_true hb.2
 have ne:shareL T r a≠shareL T r b:=fun e=>by have:=ld_inj ha.2 hb.2 e;omega
 refine ⟨leL_head (by rw [shareL_len];exact h.pos) (by rw [shareL_len];exact h.pos) (by rw [ea,eb];exact hab),ne,fun z h1 h2=>ne ?_⟩
 rw [← h.sh_eq G ha.1 h1,h.sh_eq G hb.1 h2]
theorem Sg.flat_mem (G:Grp T n s) (h:Sg T n s r) {z:Int}:z ∈ (sharesL T r n).flatten↔El n z:=by
 rw [List.mem_flatten]
 constructor
 ·rintro ⟨q,hq,hz⟩
  obtain ⟨x,hx,_,rfl⟩:=mem_sharesL.mp hq
  exact h.sh_el G hx hz
 ·intro hz
  obtain ⟨x,hx,hl,e⟩:=h.lead G hz
  exact ⟨shareL T r x,mem_sharesL.mpr ⟨x,hx,hl,rfl⟩,by rw [e];exact h.sh_refl G hz⟩
theorem Sg.flat_nd (G:Grp T n s) (h:Sg T n s r):(sharesL T r n).flatten.Nodup:=by
 unfold List.Nodup
 rw [List.pairwise_flatten]
 refine ⟨fun q hq=>?_,(h.sh_up2 G).imp fun {a b} hab x hx y hy e=>?_⟩
 ·obtain ⟨x,hx,_,rfl⟩:=mem_sharesL.mp hq
  exact (h.sh_up G hx).imp fun {a b} h=>by omega
 ·subst e;exact hab.2.2 x hx hy
theorem Sg.flat_srt (G:Grp T n s) (h:Sg T n s r):srt (sharesL T r n).flatten=upto n :=
 rise_ext (rise_of (srt_le _) ((srt_perm _).nodup_iff.mpr (h.flat_nd G))) (upto_up n) fun z=>by rw [(srt_perm _).mem_iff,h.flat_mem G,mem_upto];exact Iff.rfl
theorem flat_all {c:Nat}:∀ {L:List (List Int)},(∀ q ∈ L,q.length=c)→L.flatten.length=L.length * c
 | [],_=>by simp
 | q::L,h=>by
  rw [List.flatten_cons,List.length_append,flat_all fun q hq=>h q (List.mem_cons_of_mem _ hq),h q (by simp),List.length_cons,Nat.succ_mul];omega
theorem sh_rows {q:List Int} (hq:q ∈ sharesL T r n):q.length=r.length:=by
 obtain ⟨x,hx,_,rfl⟩:=mem_sharesL.mp hq
 exact shareL_len _ _ _
theorem Sg.flat_len (G:Grp T n s) (h:Sg T n s r):(sharesL T r n).length * r.length=n:=by
 have h1:=flat_all (c:=r.length) (L:=sharesL T r n) fun q hq=>sh_rows hq
 have h2:=congrArg List.length (h.flat_srt G)
 rw [(srt_perm _).length_eq,upto_len] at h2
 omega
end
theorem share_ahead_eq {T:List (List Int)} {n s:Nat} (G:Grp T n s) {r:List Int} (h:Sg T n s r) {x:Int} (hx:El n x):φ_share_ahead [tabD T,rowD r,.int x]=some (rowD (shareL T r x)):=by
 have hn:=G.tab.top
 have hl:=h.rs.len
 refine run_of rfl (wp_ret (evR.ev (evR_fl (evR_sort (compR1 (r:=r) (fun y=>tg T x y) (iOf_R rfl) (by rw [lim_eq];omega) (fun y hy=>?_) ⟨by rw [List.length_map];omega,rfl⟩)))))
 exact evI_ix2 G.tab rfl (evI_of rfl (evI_of rfl ⟨hx,h.rs.el y hy,rfl⟩))
theorem all_shares_eq {T:List (List Int)} {n s:Nat} (G:Grp T n s) {r:List Int} (h:Sg T n s r):φ_all_shares [tabD T,rowD r]=some (tabD (sharesL T r n)):=by
 have hn:=G.tab.top
 refine run_of rfl (wp_seq (wp_new (ev_of rfl ⟨_,rfl,?_⟩)))
 refine wp_seq (wp_forR (n:=n) (fun k e=>∃ x y,e=[.sh (tabD T),.sh (rowD r),.nw ((sharesL T r k).map rowD),x,y]) (iRng_of (eF1_len G.tab rfl) (by omega)) ⟨_,_,rfl⟩ (fun k e hk he=>?_) (fun e he=>?_))
 ·obtain ⟨_,_,rfl⟩:=he
  have hke:=El.of hk
  refine wp_seq (wp_setF (ev_of ((eCall3 rfl rfl rfl).trans (share_ahead_eq G h hke)) ?_))
  refine wp_if (tv_eqI (evI_ixR (evR_of rfl (evI_of rfl ⟨⟨by omega,by rw [shareL_len];have:=h.pos;omega⟩,evI_of rfl ⟨fun h=>?_,fun h=>?_⟩⟩))))
  ·have h:ldS T r k=true:=h
   refine wp_appN rfl (ev_of rfl ⟨?_,?_⟩)
   ·rw [List.length_map,lim_eq];have:=sharesL_len T r k;omega
   ·show ∃ x y,_=_
    rw [sharesL_succ,if_pos h,List.map_append]
    exact ⟨_,_,rfl⟩
  ·have h:ldS T r k=false:=h
   refine wp_skip ?_
   show ∃ x y,_=_
   rw [sharesL_succ,if_neg (by rw [h];simp),List.append_nil]
   exact ⟨_,_,rfl⟩
 ·obtain ⟨_,_,rfl⟩:=he
  exact wp_seq (wp_frzN rfl (wp_ret (ev_of rfl rfl)))
theorem ask_part_eq {T:List (List Int)} {n s:Nat} (G:Grp T n s) {r:List Int} (h:Sg T n s r):φ_ask_part [tabD T,rowD r]=some .non:=by
 have hn:=G.tab.top
 have hl:=h.rs.len
 obtain ⟨q,eq,Lq⟩:=least_part_ex G (S:=r) h.rs.el (by omega)
 have e:=Lq.uniq h.least
 subst e
 refine run_of rfl (wp_seq (wp_no (tv_not (tv_B (tv_allR (r:=q) (fun _=>true) (iOf_R rfl) (by rw [lim_eq];omega) (fun x hx=>ev_of ((eCall2 rfl rfl).trans (is_element_eq G.tab x)) ?_) ?_))) ?_))
 ·have:=h.rs.el x hx
  rw [decide_eq_true this.1,decide_eq_true this.2];rfl
 ·rw [List.all_eq_true.mpr (fun _ _=>rfl)];simp
 ·refine wp_no (tv_neR (evR_of ((eCall2 rfl rfl).trans eq) (evR_of rfl ?_))) ?_
  ·simp
  ·rfl
theorem shares_eq {T:List (List Int)} {n s:Nat} (G:Grp T n s) {r:List Int} (h:Sg T n s r):φ_shares [tabD T,rowD r]=some (tabD (sharesL T r n)) :=
 run_of rfl (wp_seq (wp_do (ev_of ((eCall1 rfl).trans (ask_folk_eq G)) (wp_seq (wp_do (ev_of ((eCall2 rfl rfl).trans (ask_part_eq G h)) (wp_ret (ev_of ((eCall2 rfl rfl).trans (all_shares_eq G h)) rfl))))))))
end PV
set_option linter.all false
set_option Elab.async false
set_option maxHeartbeats 2000000
namespace PV
open PySem (Str)
theorem dget_mem {kvs:List (Int × Int)} (nd:(kvs.map (·.1)).Nodup) {k v:Int}:dget kvs k=some v↔(k,v) ∈ kvs:=by
 induction kvs with
 | nil=>simp [dget]
 | cons p kvs ih =>
  simp only [List.map_cons,List.nodup_cons] at nd
  unfold dget
  rw [List.find?_cons]
  by_cases h:p.1=k
  ·rw [decide_eq_true h]
   simp only [Option.map_some,Option.some.injEq,List.mem_cons]
   constructor
   ·rintro rfl;exact .inl (by rw [← h])
   ·rintro (h' | h')
    ·rw [← h']
    ·exact absurd (List.mem_map.mpr ⟨_,h',h.symm⟩) nd.1
  ·rw [decide_eq_false h]
   rw [List.mem_cons]
   refine (ih nd.2).trans ⟨.inr,fun h'=>h'.resolve_left fun e=>h (by rw [← e])⟩
theorem dget_no {kvs:List (Int × Int)} {k:Int}:dget kvs k=none↔k ∉ kvs.map (·.1):=by
 unfold dget
 rw [Option.map_eq_none_iff,List.find?_eq_none]
 constructor
 ·intro h hm
  obtain ⟨p,hp,e⟩:=List.mem_map.mp hm
  exact h p hp (decide_eq_true e)
 ·intro h p hp e
  exact h (List.mem_map.mpr ⟨p,hp,of_decide_eq_true e⟩)
theorem dput_new {kvs:List (Int × Int)} {k v:Int} (h:dget kvs k=none):dput kvs k v=kvs++[(k,v)]:=by
 unfold dput
 rw [if_neg]
 intro e
 rw [List.any_eq_true] at e
 obtain ⟨p,hp,e⟩:=e
 exact dget_no.mp h (List.mem_map.mpr ⟨p,hp,of_decide_eq_true e⟩)
theorem dput_old {kvs:List (Int × Int)} (nd:(kvs.map (·.1)).Nodup) {k v:Int} (h:dget kvs k=some v):dput kvs k v=kvs:=by
 have hm:=(dget_mem nd).mp h
 unfold dput
 rw [if_pos (List.any_eq_true.mpr ⟨_,hm,by simp⟩)]
 conv=>rhs;rw [← List.map_id kvs]
 refine List.map_congr_left fun p hp=>?_
 by_cases e:p.1=k
 ·rw [if_pos e]
  have:dget kvs p.1=some p.2:=(dget_mem nd).mpr hp
  rw [e,h] at this
  cases this
  rfl
 ·rw [if_neg e];rfl
structure Dk (n:Nat) (kvs:List (Int × Int)):Prop where
 nd:(kvs.map (·.1)).Nodup
 el:∀ p ∈ kvs,El n p.1∧El n p.2
theorem Dk.len {n:Nat} {kvs:List (Int × Int)} (h:Dk n kvs):kvs.length≤n:=by
 have:=nd_len (n:=n) h.nd fun x hx=>by
  obtain ⟨p,hp,rfl⟩:=List.mem_map.mp hx
  exact (h.el p hp).1
 rwa [List.length_map] at this
theorem Dk.snoc {n:Nat} {kvs:List (Int × Int)} (h:Dk n kvs) {k v:Int} (hk:El n k) (hv:El n v) (hn:dget kvs k=none):Dk n (kvs++[(k,v)]):=by
 refine ⟨?_,fun p hp=>?_⟩
 ·rw [List.map_append,List.nodup_append]
  refine ⟨h.nd,by simp,fun a ha b hb=>?_⟩
  simp at hb;subst hb
  rintro rfl
  exact dget_no.mp hn ha
 ·rcases List.mem_append.mp hp with hp | hp
  ·exact h.el p hp
  ·simp at hp;subst hp;exact ⟨hk,hv⟩
structure Iso (A B:List (List Int)) (n:Nat) (g:Int→Int):Prop where
 el:∀ a,El n a→El n (g a)
 inj:∀ a b,El n a→El n b→g a=g b→a=b
 mul:∀ a b,El n a→El n b→g (tg A a b)=tg B (g a) (g b)
def Ag (g:Int→Int) (kvs:List (Int × Int)):Prop:=∀ p ∈ kvs,g p.1=p.2
theorem Ag.snoc {g:Int→Int} {kvs:List (Int × Int)} (h:Ag g kvs) {k v:Int} (e:g k=v):Ag g (kvs++[(k,v)]):=fun p hp=>by
 rcases List.mem_append.mp hp with hp | hp
 ·exact h p hp
 ·simp at hp;subst hp;exact e
def PreD (a b:List (Int × Int)):Prop:=∃ t,b=a++t
theorem PreD.mem {a b:List (Int × Int)} (h:PreD a b) {p:Int × Int} (hp:p ∈ a):p ∈ b:=by obtain ⟨t,rfl⟩:=h;exact List.mem_append_left _ hp
theorem PreD.refl (a:List (Int × Int)):PreD a a:=⟨[],by simp⟩
theorem PreD.trans {a b c:List (Int × Int)} (h:PreD a b) (k:PreD b c):PreD a c:=by obtain ⟨t,rfl⟩:=h;obtain ⟨u,rfl⟩:=k;exact ⟨t++u,by simp⟩
theorem PreD.snoc (a:List (Int × Int)) (p:Int × Int):PreD a (a++[p]):=⟨[p],rfl⟩
theorem PreD.le {a b:List (Int × Int)} (h:PreD a b):a.length≤b.length:=by obtain ⟨t,rfl⟩:=h;simp
def Mk2 (A B:List (List Int)) (kvs w:List (Int × Int)):Prop:=∀ p ∈ kvs,∀ q ∈ kvs,(tg A p.1 q.1,tg B p.2 q.2) ∈ w
theorem wp_dict {i:Nat} {e:Ex} {env:Env} {Q:Out→Env→Prop} {kvs:List (Int × Int)} (h:e env=some (.dct kvs)) (k:Q .nx (env.set i (.dc kvs))):wp (sDict i e) env Q:=⟨_,_,by simp only [sDict,h],k⟩
theorem wp_frzD {i:Nat} {env:Env} {Q:Out→Env→Prop} {kvs:List (Int × Int)} (h:env[i]?=some (.dc kvs)) (k:Q .nx (env.set i (.sh (.dct kvs)))):wp (sFrz i) env Q:=⟨_,_,by simp only [sFrz,h],k⟩
theorem wp_dput {i:Nat} {a e:Ex} {env:Env} {Q:Out→Env→Prop} {kvs:List (Int × Int)} {x y:Int} (h:env[i]?=some (.dc kvs)) (ha:a env=some (.int x)) (he:e env=some (.int y)) (hl:kvs.length≤1000) (k:Q .nx (env.set i (.dc (dput kvs x y)))):wp (sDPut i a e) env Q :=
 ⟨_,_,by simp only [sDPut,h,ha,he];rw [if_pos (by rw [lim_eq];omega)],k⟩
theorem getD_of {a b:Ex} {env:Env} {kvs:List (Int × Int)} {k v:Int} (ha:a env=some (.dct kvs)) (hb:b env=some (.int k)) (h:dget kvs k=some v):eGetD a b env=some (.int v):=by
 simp only [eGetD,eF2,ha,hb,fGetD,h]
theorem lenD_of {a:Ex} {env:Env} {kvs:List (Int × Int)} (ha:a env=some (.dct kvs)):eF1 fLenD a env=some (.int kvs.length):=by
 simp only [eF1,ha,fLenD]
theorem iKeys_of {a:Ex} {env:Env} {kvs:List (Int × Int)} (ha:a env=some (.dct kvs)):iKeys a env=some ((kvs.map (·.1)).map .int):=by
 simp only [iKeys,ha,List.map_map];rfl
theorem seen_nd_len {r:List Int}:(seen r).length=r.length↔r.Nodup:=by
 constructor
 ·intro h
  have p:∀ (vs σ:List Int),(vs.foldl addv σ).length=σ.length + vs.length→vs.Nodup∧∀ x ∈ vs,x ∉ σ:=by
   intro vs
   induction vs with
   | nil=>intro σ _;exact ⟨by simp,by simp⟩
   | cons v vs ih =>
    intro σ hl
    have bound:∀ (vs σ:List Int),(vs.foldl addv σ).length≤σ.length + vs.length:=by
     intro vs
     induction vs with
     | nil=>intro σ;simp
     | cons v vs ih2 =>
      intro σ
      rw [List.foldl_cons,List.length_cons]
      have:=ih2 (addv σ v)
      have h2:(addv σ v).length≤σ.length + 1:=by unfold addv;split <;> simp
      omega
    rw [List.foldl_cons,List.length_cons] at hl
    by_cases hm:v ∈ σ
    ·have e:addv σ v=σ:=by unfold addv;rw [if_pos hm]
     rw [e] at hl
     have:=bound vs σ
     omega
    ·have e:addv σ v=σ++[v]:=by unfold addv;rw [if_neg hm]
     rw [e] at hl
     obtain ⟨h1,h2⟩:=ih (σ++[v]) (by rw [hl,List.length_append];simp;omega)
     refine ⟨List.nodup_cons.mpr ⟨fun hv=>h2 v hv (by simp),h1⟩,fun x hx=>?_⟩
     rcases List.mem_cons.mp hx with rfl | hx
     ·exact hm
     ·exact fun hs=>h2 x hx (List.mem_append_left _ hs)
  exact (p r [] (by simpa [seen] using h)).1
 ·intro h
  have h1:=seen_len r
  have h2:=h.length_le_of_subset (l₂:=seen r) fun x hx=>seen_mem.mpr hx
  omega
theorem with_all_ex {A B : List (List Int)} {n s s' : Nat} (GA : Grp A n s) (GB : Grp B n s') {kvs : List (Int × Int)} (hk : Dk n kvs) :
    ∃ d, φ_with_all_named [tabD A, tabD B, .dct kvs] = some d ∧ ((d = .non ∧ ∀ g, Iso A B n g → ¬ Ag g kvs) ∨
      ∃ w, d = .dct w ∧ PreD kvs w ∧ Dk n w ∧ Mk2 A B kvs w ∧ (w.map (·.2)).Nodup ∧ ∀ g, Iso A B n g → Ag g kvs → Ag g w) := by
  have hA := GA.tab
  have hB := GB.tab
  have hn := hA.top
  have hkl := hk.len
  have hlm := lim_eq
  have key : wp R_with_all_named (enter 9 [tabD A, tabD B, .dct kvs]) (fun o _ => ∃ d, o = .rt d ∧ ((d = .non ∧ ∀ g, Iso A B n g → ¬ Ag g kvs) ∨
      ∃ w, d = .dct w ∧ PreD kvs w ∧ Dk n w ∧ Mk2 A B kvs w ∧ (w.map (·.2)).Nodup ∧ ∀ g, Iso A B n g → Ag g kvs → Ag g w)) := by
    refine wp_seq (wp_dict (kvs := kvs) rfl ?_)
    refine wp_seq (wp_forRow (r := kvs.map (·.1)) (fun i e => ∃ w x y z u, PreD kvs w ∧ Dk n w ∧ (∀ p ∈ kvs.take i, ∀ q ∈ kvs, (tg A p.1 q.1, tg B p.2 q.2) ∈ w) ∧ (∀ g, Iso A B n g → Ag g kvs → Ag g w) ∧ e = [.sh (tabD A), .sh (tabD B), .sh (.dct kvs), .dc w, x, y, z, u, .un]) (iKeys_of rfl) ⟨kvs, _, _, _, _, PreD.refl _, hk, by simp, fun g _ h => h, rfl⟩ (fun i e a ha he => ?_) (fun e he => ?_))
    · obtain ⟨w, _, _, _, _, hp, hw, hc, hg, rfl⟩ := he
      rw [List.getElem?_map, Option.map_eq_some_iff] at ha
      obtain ⟨pa, hpa, rfl⟩ := ha
      have hpm := List.mem_of_getElem? hpa
      obtain ⟨ea1, ea2⟩ := hk.el pa hpm
      have ga : dget kvs pa.1 = some pa.2 := (dget_mem hk.nd).mpr hpm
      refine wp_forRow (r := kvs.map (·.1)) (fun j e => ∃ w y z u, PreD kvs w ∧ Dk n w ∧ (∀ p ∈ kvs.take i, ∀ q ∈ kvs, (tg A p.1 q.1, tg B p.2 q.2) ∈ w) ∧ (∀ q ∈ kvs.take j, (tg A pa.1 q.1, tg B pa.2 q.2) ∈ w) ∧ (∀ g, Iso A B n g → Ag g kvs → Ag g w) ∧ e = [.sh (tabD A), .sh (tabD B), .sh (.dct kvs), .dc w, .sh (.int pa.1), y, z, u, .un]) (iKeys_of rfl) ⟨w, _, _, _, hp, hw, hc, by simp, hg, rfl⟩ (fun j e b hb he => ?_) (fun e he => ?_)
      · obtain ⟨w, _, _, _, hp, hw, hc, hc2, hg, rfl⟩ := he
        rw [List.getElem?_map, Option.map_eq_some_iff] at hb
        obtain ⟨pb, hpb, rfl⟩ := hb
        have hqm := List.mem_of_getElem? hpb
        obtain ⟨eb1, eb2⟩ := hk.el pb hqm
        have gb : dget kvs pb.1 = some pb.2 := (dget_mem hk.nd).mpr hqm
        have hwl := hw.len
        have e1 : El n (tg A pa.1 pb.1) := GA.bd ea1 eb1
        have e2 : El n (tg B pa.2 pb.2) := GB.bd ea2 eb2
        refine wp_seq (wp_set (evI.ev (evI_ix2 hA rfl (evI_of rfl (evI_of rfl ⟨ea1, eb1, ?_⟩)))))
        refine wp_seq (wp_set (evI.ev (evI_ix2 hB rfl (evI_of (getD_of rfl rfl ga) (evI_of (getD_of rfl rfl gb) ⟨ea2, eb2, ?_⟩)))))
        have iso : ∀ g, Iso A B n g → Ag g kvs → g (tg A pa.1 pb.1) = tg B pa.2 pb.2 := fun g hG hA' => by rw [hG.mul _ _ ea1 eb1, hA' pa hpm, hA' pb hqm]
        obtain ⟨mm, emm⟩ : ∃ x, x = tg A pa.1 pb.1 := ⟨_, rfl⟩
        obtain ⟨nn, enn⟩ : ∃ x, x = tg B pa.2 pb.2 := ⟨_, rfl⟩
        rw [← emm] at e1 iso ⊢
        rw [← enn] at e2 iso ⊢
        have nx : ∀ w2, PreD w w2 → Dk n w2 → (mm, nn) ∈ w2 → (∀ g, Iso A B n g → Ag g kvs → Ag g w2) → ∀ z5 z6 z7, ∃ w y z u, PreD kvs w ∧ Dk n w ∧ (∀ p ∈ kvs.take i, ∀ q ∈ kvs, (tg A p.1 q.1, tg B p.2 q.2) ∈ w) ∧ (∀ q ∈ kvs.take (j + 1), (tg A pa.1 q.1, tg B pa.2 q.2) ∈ w) ∧ (∀ g, Iso A B n g → Ag g kvs → Ag g w) ∧ [Sl.sh (tabD A), .sh (tabD B), .sh (.dct kvs), .dc w2, .sh (.int pa.1), z5, z6, z7, .un] = [.sh (tabD A), .sh (tabD B), .sh (.dct kvs), .dc w, .sh (.int pa.1), y, z, u, .un] := fun w2 q1 q2 q3 q4 z5 z6 z7 =>
          ⟨w2, z5, z6, z7, hp.trans q1, q2, fun p hp' q hq => q1.mem (hc p hp' q hq), fun q hq => by
            rw [List.take_add_one, hpb, List.mem_append] at hq
            rcases hq with hq | hq
            · exact q1.mem (hc2 q hq)
            · simp at hq; subst hq; rw [← emm, ← enn]; exact q3, q4, rfl⟩
        have eg : ∀ z5, eGet2 3 (eVar 6) (eVar 7) [Sl.sh (tabD A), .sh (tabD B), .sh (.dct kvs), .dc w, .sh (.int pa.1), z5, .sh (.int mm), .sh (.int nn), .un] = some (.int ((dget w mm).getD nn)) := fun _ => rfl
        cases hq : dget w mm with
        | none =>
          rw [hq] at eg
          refine wp_seq (wp_no (tv_neI (evI_of (eg _) (evI_of rfl (by simp)))) ?_)
          refine wp_dput (kvs := w) rfl rfl rfl (by omega) ?_
          rw [dput_new hq]
          exact nx _ (PreD.snoc _ _) (hw.snoc e1 e2 hq) (by simp) (fun g h1 h2 => (hg g h1 h2).snoc (iso g h1 h2)) _ _ _
        | some v =>
          rw [hq] at eg
          refine wp_seq (wp_if (tv_neI (evI_of (eg _) (evI_of rfl ⟨fun h => ?_, fun h => ?_⟩))))
          · have h : v ≠ nn := by simpa using h
            refine wp_ret (ev_of rfl ⟨_, rfl, .inl ⟨rfl, fun g h1 h2 => h ?_⟩⟩)
            have := hg g h1 h2 _ ((dget_mem hw.nd).mp hq)
            exact (show g mm = v from this).symm.trans (iso g h1 h2)
          · have h : v = nn := by simpa using h
            subst h
            refine wp_skip (wp_dput (kvs := w) rfl rfl rfl (by omega) ?_)
            rw [dput_old hw.nd hq]
            exact nx w (PreD.refl _) hw ((dget_mem hw.nd).mp hq) hg _ _ _
      · obtain ⟨w, _, _, _, hp, hw, hc, hc2, hg, rfl⟩ := he
        rw [List.length_map, List.take_length] at hc2
        refine ⟨w, _, _, _, _, hp, hw, fun p hp' => ?_, hg, rfl⟩
        rw [List.take_add_one, hpa, List.mem_append] at hp'
        rcases hp' with hp' | hp'
        · exact hc p hp'
        · simp at hp'; subst hp'; exact hc2
    · obtain ⟨w, z4, z5, z6, z7, hp, hw, hc, hg, rfl⟩ := he
      rw [List.length_map, List.take_length] at hc
      have hwl := hw.len
      refine wp_seq (wp_frzD (kvs := w) rfl ?_)
      have ec : evR (eComp 8 (iKeys (eVar 3)) tTrue (eGetD (eVar 3) (eVar 8))) [.sh (tabD A), .sh (tabD B), .sh (.dct kvs), .sh (.dct w), z4, z5, z6, z7, .un] (· = w.map (·.2)) := by
        refine compR1 (r := w.map (·.1)) (fun k => (dget w k).getD 0) (iKeys_of rfl) (by rw [List.length_map]; omega) (fun k hk' => ?_) ?_
        · obtain ⟨p, hp', rfl⟩ := List.mem_map.mp hk'
          have := (dget_mem hw.nd).mpr hp'
          exact evI_of (getD_of rfl rfl this) (by rw [this]; rfl)
        · rw [List.map_map]
          refine List.map_congr_left fun p hp' => ?_
          simp only [Function.comp]
          rw [(dget_mem hw.nd).mpr hp']; rfl
      obtain ⟨r, hr1, hr2⟩ := ec
      have els : eF1 fLenSet (eComp 8 (iKeys (eVar 3)) tTrue (eGetD (eVar 3) (eVar 8))) [.sh (tabD A), .sh (tabD B), .sh (.dct kvs), .sh (.dct w), z4, z5, z6, z7, .un] = some (.int (seen (w.map (·.2))).length) := by
        rw [hr2] at hr1
        simp only [eF1, hr1, rowD, fLenSet, ints_map]
        rw [if_pos (by rw [List.length_map]; omega)]
      refine wp_seq (wp_if (tv_lt (evI_of els (evI_of (lenD_of rfl) ⟨fun h => ?_, fun h => ?_⟩))))
      · have h : ((seen (w.map (·.2))).length : Int) < w.length := by simpa using h
        refine wp_ret (ev_of rfl ⟨_, rfl, .inl ⟨rfl, fun g h1 h2 => ?_⟩⟩)
        have hw2 := hg g h1 h2
        have : (w.map (·.2)).Nodup := by
          have e : w.map (·.2) = (w.map (·.1)).map g := by
            rw [List.map_map]
            exact List.map_congr_left fun p hp' => (hw2 p hp').symm
          rw [e]
          unfold List.Nodup
          rw [List.pairwise_map]
          refine List.Pairwise.imp_of_mem (R := (· ≠ ·)) (fun {a b} ha hb hne he => hne ?_) hw.nd
          obtain ⟨p, hp', rfl⟩ := List.mem_map.mp ha
          obtain ⟨q, hq', rfl⟩ := List.mem_map.mp hb
          exact h1.inj _ _ (hw.el p hp').1 (hw.el q hq').1 he
        have := seen_nd_len.mpr this
        rw [List.length_map] at this
        omega
      · have h : ¬ ((seen (w.map (·.2))).length : Int) < w.length := by simpa using h
        have hs := seen_len (w.map (·.2))
        rw [List.length_map] at hs
        refine wp_skip (wp_seq (wp_frzS rfl (wp_ret (ev_of rfl ⟨_, rfl, .inr ⟨w, rfl, hp, hw, hc, seen_nd_len.mp (by rw [List.length_map]; omega), hg⟩⟩))))
  obtain ⟨o, e, h1, d, rfl, h2⟩ := key
  exact ⟨d, run_rt rfl h1, h2⟩
end PV
set_option linter.all false
set_option Elab.async false
set_option maxHeartbeats 2000000
namespace PV
open PySem (Str)
structure Hm (A B:List (List Int)) (n:Nat) (m:List (Int × Int)):Prop where
 dk:Dk n m
 cl:Mk2 A B m m
 vn:(m.map (·.2)).Nodup
theorem least_ex {n:Nat} {kvs:List (Int × Int)} (hk:Dk n kvs) (hn:n≤12) (hl:kvs.length < n):∃ e:Nat,e < n∧φ_least_without_name [.dct kvs]=some (.int e)∧dget kvs e=none:=by
 have ex:∃ e:Nat,e < n∧dget kvs e=none:=by
  apply Classical.byContradiction
  intro h
  have:∀ x ∈ upto n,x ∈ kvs.map (·.1):=fun x hx=>by
   obtain ⟨k,hk',rfl⟩:=(show El n x from mem_upto.mp hx).nat
   apply Classical.byContradiction
   intro hx'
   exact h ⟨k,hk',dget_no.mpr hx'⟩
  have:=(upto_nd n).length_le_of_subset this
  rw [upto_len,List.length_map] at this
  omega
 obtain ⟨e0,he0,hd0⟩:=ex
 have key:wp R_least_without_name (enter 2 [.dct kvs]) (fun o _=>∃ e:Nat,o=.rt (.int e)∧e < n∧dget kvs e=none):=by
  refine wp_seq (wp_set (ev_of rfl ?_))
  refine wp_seq (wp_while (N:=12) (fun k e=>k≤e0∧e=[.sh (.dct kvs),.sh (.int k)]) (by omega) ⟨Nat.zero_le _,rfl⟩ fun k e he=>?_)
  obtain ⟨hk0,rfl⟩:=he
  refine tv_of (d:=(dget kvs k).isSome) rfl ⟨fun h=>⟨by omega,?_⟩,fun h=>?_⟩
  ·refine wp_set (evI.ev (evI_addF (evI_of rfl (evI_of rfl ⟨?_,rfl⟩))))
   rcases Nat.lt_or_ge k e0 with h1 | h1
   ·omega
   ·have:k=e0:=by omega
    subst this
    rw [hd0] at h;cases h
  ·refine wp_ret (ev_of rfl ⟨k,rfl,by omega,?_⟩)
   cases hq:dget kvs k with
   | none=>rfl
   | some v=>rw [hq] at h;cases h
 obtain ⟨o,e,h1,k,rfl,h2,h3⟩:=key
 exact ⟨k,h2,run_rt rfl h1,h3⟩
theorem with_name_ex {A B : List (List Int)} {n s s' : Nat} (GA : Grp A n s) (GB : Grp B n s') {kvs : List (Int × Int)} (hk : Dk n kvs) {e x : Int} (he : El n e) (hx : El n x) (hd : dget kvs e = none) :
    ∃ d, φ_with_name [tabD A, tabD B, .dct kvs, .int e, .int x] = some d ∧ ((d = .non ∧ ∀ g, Iso A B n g → Ag g kvs → g e ≠ x) ∨
      ∃ m, d = .dct m ∧ Hm A B n m ∧ kvs.length < m.length ∧ ∀ g, Iso A B n g → Ag g kvs → g e = x → Ag g m) := by
  have hn := GA.tab.top
  have hkl := hk.len
  have key : wp R_with_name (enter 7 [tabD A, tabD B, .dct kvs, .int e, .int x]) (fun o _ => ∃ d, o = .rt d ∧ ((d = .non ∧ ∀ g, Iso A B n g → Ag g kvs → g e ≠ x) ∨
      ∃ m, d = .dct m ∧ Hm A B n m ∧ kvs.length < m.length ∧ ∀ g, Iso A B n g → Ag g kvs → g e = x → Ag g m)) := by
    refine wp_seq (wp_dict (kvs := kvs) rfl ?_)
    refine wp_seq (wp_dput (kvs := kvs) rfl rfl rfl (by omega) ?_)
    rw [dput_new hd]
    have h0 : Dk n (kvs ++ [(e, x)]) := hk.snoc he hx hd
    refine wp_seq (wp_frzD (kvs := kvs ++ [(e, x)]) rfl ?_)
    obtain ⟨d0, ed0, hd0⟩ := with_all_ex GA GB h0
    refine wp_seq (wp_set (ev_of ((eCall3 rfl rfl rfl).trans ed0) ?_))
    refine wp_seq (wp_while (N := 12) (fun k en => ∃ w d, Dk n w ∧ kvs.length < w.length ∧ k < w.length ∧ (∀ g, Iso A B n g → Ag g kvs → g e = x → Ag g w) ∧ ((d = .non ∧ ∀ g, Iso A B n g → ¬ Ag g w) ∨
      ∃ w', d = .dct w' ∧ PreD w w' ∧ Dk n w' ∧ Mk2 A B w w' ∧ (w'.map (·.2)).Nodup ∧ ∀ g, Iso A B n g → Ag g w → Ag g w') ∧ en = [.sh (tabD A), .sh (tabD B), .sh (.dct kvs), .sh (.int e), .sh (.int x), .sh (.dct w), .sh d]) (by omega)
      ⟨kvs ++ [(e, x)], d0, h0, by simp, by simp, fun g _ h1 h2 => h1.snoc h2, hd0, rfl⟩ fun k en hen => ?_)
    obtain ⟨w, d, hw, hwl, hkw, hg, hor, rfl⟩ := hen
    have hwn := hw.len
    rcases hor with ⟨rfl, hno⟩ | ⟨w', rfl, hp, hw', hm, hv, hgw⟩
    · refine tv_and (tv_noN (ev_of rfl ⟨fun h => (by cases h), fun _ => ⟨fun h => (by cases h), fun _ => ?_⟩⟩))
      exact wp_ret (ev_of rfl ⟨_, rfl, .inl ⟨rfl, fun g h1 h2 h3 => hno g h1 (hg g h1 h2 h3)⟩⟩)
    · refine tv_and (tv_noN (ev_of rfl ⟨fun _ => tv_gt (evI_of (lenD_of rfl) (evI_of (lenD_of rfl) ⟨fun h => ⟨by omega, ?_⟩, fun h => ?_⟩)), fun h => (by cases h)⟩))
      · have h : (w.length : Int) < w'.length := by simpa using h
        refine wp_seq (wp_set (ev_of rfl ?_))
        refine wp_seq (wp_frzS rfl ?_)
        obtain ⟨d1, ed1, hd1⟩ := with_all_ex GA GB hw'
        refine wp_set (ev_of ((eCall3 rfl rfl rfl).trans ed1) ?_)
        exact ⟨w', d1, hw', by omega, by omega, fun g h1 h2 h3 => hgw g h1 (hg g h1 h2 h3), hd1, rfl⟩
      · have h : ¬ ((w.length : Int) < w'.length) := by simpa using h
        have hle := hp.le
        have e2 : w' = w := by
          obtain ⟨t, rfl⟩ := hp
          have : t = [] := by
            rw [List.length_append] at h
            exact List.length_eq_zero_iff.mp (by omega)
          rw [this]; simp
        subst e2
        exact wp_ret (ev_of rfl ⟨_, rfl, .inr ⟨w', rfl, ⟨hw', hm, hv⟩, by omega, hg⟩⟩)
  obtain ⟨o, en, h1, d, rfl, h2⟩ := key
  exact ⟨d, run_rt rfl h1, h2⟩
structure IsoR (A B:List (List Int)) (n:Nat) (r:List Int):Prop where
 len:r.length=n
 nd:r.Nodup
 el:∀ x ∈ r,El n x
 mul:∀ a b:Int,El n a→El n b→r.getD (tg A a b).toNat 0=tg B (r.getD a.toNat 0) (r.getD b.toNat 0)
theorem full_row {A B:List (List Int)} {n s s':Nat} (GA:Grp A n s) (GB:Grp B n s') {m:List (Int × Int)} (h:Hm A B n m) (hl:m.length=n):(∀ x ∈ upto n,(dget m x).isSome=true)∧IsoR A B n ((upto n).map fun x=>(dget m x).getD 0):=by
 have all:∀ x,El n x→∃ v,(x,v) ∈ m:=fun x hx=>by
  have hs:∀ y ∈ m.map (·.1),y ∈ upto n:=fun y hy=>by
   obtain ⟨p,hp,rfl⟩:=List.mem_map.mp hy
   exact mem_upto.mpr (h.dk.el p hp).1
  apply Classical.byContradiction
  intro hno
  have hx':x ∉ m.map (·.1):=fun hm=>by
   obtain ⟨p,hp,rfl⟩:=List.mem_map.mp hm
   exact hno ⟨p.2,hp⟩
  have:=(List.nodup_cons.mpr ⟨hx',h.dk.nd⟩).length_le_of_subset (l₂:=upto n) fun y hy=>by
   rcases List.mem_cons.mp hy with rfl | hy
   ·exact mem_upto.mpr hx
   ·exact hs y hy
  rw [List.length_cons,List.length_map,upto_len] at this
  omega
 have val:∀ x v,(x,v) ∈ m→dget m x=some v:=fun x v hm=>(dget_mem h.dk.nd).mpr hm
 have at':∀ a:Int,El n a→((upto n).map fun x=>(dget m x).getD 0).getD a.toNat 0=(dget m a).getD 0:=fun a ha=>by
  obtain ⟨k,hk,rfl⟩:=ha.nat
  simp [List.getD,upto,hk]
 refine ⟨fun x hx=>?_,⟨by rw [List.length_map,upto_len],?_,fun y hy=>?_,fun a b ha hb=>?_⟩⟩
 ·obtain ⟨v,hv⟩:=all x (mem_upto.mp hx)
  rw [val x v hv];rfl
 ·unfold List.Nodup
  rw [List.pairwise_map]
  refine List.Pairwise.imp_of_mem (R:=(·≠·)) (fun {a b} ha hb hne he=>hne ?_) (upto_nd n)
  obtain ⟨v,hv⟩:=all a (mem_upto.mp ha)
  obtain ⟨u,hu⟩:=all b (mem_upto.mp hb)
  rw [val a v hv,val b u hu] at he
  have he:v=u:=he
  subst he
  have vn:=h.vn
  have inj:∀ {l:List (Int × Int)},(l.map (·.2)).Nodup→∀ {p q:Int × Int},p ∈ l→q ∈ l→p.2=q.2→p=q:=by
   intro l
   induction l with
   | nil=>intro _ p q hp;cases hp
   | cons z l ih =>
    intro nd p q hp hq e
    simp only [List.map_cons,List.nodup_cons] at nd
    rcases List.mem_cons.mp hp with rfl | hp' <;> rcases List.mem_cons.mp hq with rfl | hq'
    ·rfl
    ·exact absurd (List.mem_map.mpr ⟨q,hq',e.symm⟩) nd.1
    ·exact absurd (List.mem_map.mpr ⟨p,hp',e⟩) nd.1
    ·exact ih nd.2 hp' hq' e
  have:=inj vn hv hu rfl
  exact congrArg Prod.fst this
 ·obtain ⟨x,hx,rfl⟩:=List.mem_map.mp hy
  obtain ⟨v,hv⟩:=all x (mem_upto.mp hx)
  rw [val x v hv]
  exact (h.dk.el _ hv).2
 ·obtain ⟨v,hv⟩:=all a ha
  obtain ⟨u,hu⟩:=all b hb
  rw [at' _ (GA.bd ha hb),at' a ha,at' b hb,val a v hv,val b u hu,val _ _ (h.cl _ hv _ hu)]
  rfl
theorem find_ex {A B:List (List Int)} {n s s':Nat} (GA:Grp A n s) (GB:Grp B n s'):∀ (k:Nat) {m:List (Int × Int)},Hm A B n m→n - m.length < k →
  ∃ d,φn_find_renaming k [tabD A,tabD B,.dct m]=some d∧((d=.non∧∀ g,Iso A B n g→¬ Ag g m)∨∃ r,d=rowD r∧IsoR A B n r)
 | 0,m,h,hk=>by omega
 | k + 1,m,h,hk=>by
  have hA:=GA.tab
  have hB:=GB.tab
  have hn:=hA.top
  have hml:=h.dk.len
  have key:wp (R_find_renaming (φn_find_renaming k)) (enter 7 [tabD A,tabD B,.dct m]) (fun o _=>∃ d,o=.rt d∧((d=.non∧∀ g,Iso A B n g→¬ Ag g m)∨∃ r,d=rowD r∧IsoR A B n r)):=by
   refine wp_seq (wp_if (tv_eqI (evI_of (lenD_of rfl) (evI_of (eF1_len hA rfl) ⟨fun he=>?_,fun he=>?_⟩))))
   ·have he:(m.length:Int)=n:=by simpa using he
    obtain ⟨f1,f2⟩:=full_row GA GB h (by omega)
    refine wp_ret (evR.ev (evR_fl (compR1 (r:=upto n) (fun x=>(dget m x).getD 0) (iRng_upto (eF1_len hA rfl) (by omega)) (by rw [upto_len,lim_eq];omega) (fun x hx=>?_) ⟨_,rfl,.inr ⟨_,rfl,f2⟩⟩)))
    have:=f1 x hx
    cases hq:dget m x with
    | none=>rw [hq] at this;cases this
    | some v=>exact evI_of (getD_of rfl rfl hq) rfl
   ·have he:¬ ((m.length:Int)=n):=by simpa using he
    refine wp_skip ?_
    obtain ⟨e,hel,ee,hde⟩:=least_ex h.dk hn (by omega)
    refine wp_seq (wp_set (ev_of ((eCall1 rfl).trans ee) ?_))
    refine wp_seq (wp_forR (n:=n) (fun j en=>∃ z4 z5 z6,(∀ i:Nat,i < j→∀ g,Iso A B n g→Ag g m→g e≠i)∧en=[.sh (tabD A),.sh (tabD B),.sh (.dct m),.sh (.int e),z4,z5,z6]) (iRng_of (eF1_len hB rfl) (by omega)) ⟨_,_,_,fun i hi=>by omega,rfl⟩ (fun j en hj hen=>?_) (fun en hen=>?_))
    ·obtain ⟨_,_,_,hno,rfl⟩:=hen
     obtain ⟨d,ed,hd⟩:=with_name_ex GA GB h.dk (El.of hel) (El.of hj) hde
     have e5:∀ z4 z5,eCall φ_with_name [(eVar 0),(eVar 1),(eVar 2),(eVar 3),(eVar 4)] [Sl.sh (tabD A),.sh (tabD B),.sh (.dct m),.sh (.int e),.sh (.int j),z4,z5]=some d:=fun _ _=>ed
     refine wp_seq (wp_set (ev_of (e5 _ _) ?_))
     have step:(∀ g,Iso A B n g→Ag g m→g e≠(j:Int))→∀ i:Nat,i < j + 1→∀ g,Iso A B n g→Ag g m→g e≠i:=fun h1 i hi=>by
      rcases Nat.lt_or_ge i j with h2 | h2
      ·exact hno i h2
      ·have:i=j:=by omega
       subst this;exact h1
     rcases hd with ⟨rfl,hne⟩ | ⟨m',rfl,hm',hlt,hgm⟩
     ·exact wp_no (tv_noN (ev_of rfl rfl)) ⟨_,_,_,step hne,rfl⟩
     ·obtain ⟨d2,ed2,hd2⟩:=find_ex GA GB k hm' (by omega)
      refine wp_if (tv_noN (ev_of rfl ⟨fun _=>?_,fun h=>(by cases h)⟩))
      refine wp_seq (wp_setF (ev_of ((eCall3 rfl rfl rfl).trans ed2) ?_))
      rcases hd2 with ⟨rfl,hno2⟩ | ⟨r,rfl,hr⟩
      ·exact wp_no (tv_noN (ev_of rfl rfl)) ⟨_,_,_,step fun g h1 h2 h3=>hno2 g h1 (hgm g h1 h2 h3),rfl⟩
      ·exact wp_if (tv_noN (ev_of rfl ⟨fun _=>wp_ret (ev_of rfl ⟨_,rfl,.inr ⟨r,rfl,hr⟩⟩),fun h=>(by cases h)⟩))
    ·obtain ⟨_,_,_,hno,rfl⟩:=hen
     refine wp_ret (ev_of rfl ⟨_,rfl,.inl ⟨rfl,fun g h1 h2=>?_⟩⟩)
     obtain ⟨i,hi,ei⟩:=(h1.el e (El.of hel)).nat
     exact hno i hi g h1 h2 ei
  obtain ⟨o,en,h1,d,rfl,h2⟩:=key
  exact ⟨d,run_rt rfl h1,h2⟩
theorem Iso.rest {A B:List (List Int)} {n s s':Nat} (GA:Grp A n s) (GB:Grp B n s') {g:Int→Int} (h:Iso A B n g):g s=s':=by
 have h1:=h.mul s s GA.s GA.s
 rw [GA.l GA.s] at h1
 have hE:=h.el _ GA.s
 have h2:tg B (g s) (g s)=tg B (g s) s':=by rw [← h1,GB.r hE]
 exact GB.cl hE hE GB.s h2
theorem renaming_ex {A B:List (List Int)} {n n' s s':Nat} (GA:Grp A n s) (GB:Grp B n' s'):∃ d,φ_renaming [tabD A,tabD B]=some d∧((n≠n'∧d=.non)∨(n=n'∧((d=.non∧∀ g,¬ Iso A B n g)∨∃ r,d=rowD r∧IsoR A B n r))):=by
 have hA:=GA.tab
 have hB:=GB.tab
 by_cases hnn:n=n'
 ·subst hnn
  have hn:=hA.top
  have hm:Hm A B n [((s:Int),(s':Int))]:=by
   refine ⟨⟨by simp,fun p hp=>?_⟩,fun p hp q hq=>?_,by simp⟩
   ·simp at hp;subst hp;exact ⟨GA.s,GB.s⟩
   ·simp at hp hq;subst hp;subst hq
    simp only
    rw [GA.l GA.s,GB.l GB.s];simp
  obtain ⟨d,ed,hd⟩:=find_ex GA GB 13 hm (by simp;omega)
  refine ⟨d,?_,.inr ⟨rfl,?_⟩⟩
  ·refine run_of rfl (wp_seq (wp_do (ev_of ((eCall1 rfl).trans (ask_folk_eq GA)) ?_)))
   refine wp_seq (wp_do (ev_of ((eCall1 rfl).trans (ask_folk_eq GB)) ?_))
   refine wp_seq (wp_no (tv_neI (evI_of (eF1_len hA rfl) (evI_of (eF1_len hB rfl) (by simp)))) ?_)
   have r1:eCall φ_find_rest [(eVar 0)] [.sh (tabD A),.sh (tabD B)]=some (.int s):=(eCall1 rfl).trans ((find_rest_eq hA).trans (by rw [GA.rest];rfl))
   have r2:eCall φ_find_rest [(eVar 1)] [.sh (tabD A),.sh (tabD B)]=some (.int s'):=(eCall1 rfl).trans ((find_rest_eq hB).trans (by rw [GB.rest];rfl))
   have r3:eDisp (eCall φ_find_rest [(eVar 0)]) (eCall φ_find_rest [(eVar 1)]) [.sh (tabD A),.sh (tabD B)]=some (.dct [((s:Int),(s':Int))]):=by simp only [eDisp,r1,r2]
   exact wp_ret (ev_of ((eCall3 rfl rfl r3).trans ed) rfl)
  ·rcases hd with ⟨rfl,hno⟩ | hr
   ·refine .inl ⟨rfl,fun g hg=>hno g hg fun p hp=>?_⟩
    simp at hp;subst hp
    exact hg.rest GA GB
   ·exact .inr hr
 ·refine ⟨.non,?_,.inl ⟨hnn,rfl⟩⟩
  refine run_of rfl (wp_seq (wp_do (ev_of ((eCall1 rfl).trans (ask_folk_eq GA)) ?_)))
  refine wp_seq (wp_do (ev_of ((eCall1 rfl).trans (ask_folk_eq GB)) ?_))
  exact wp_seq (wp_if (tv_neI (evI_of (eF1_len hA rfl) (evI_of (eF1_len hB rfl) ⟨fun _=>wp_ret (ev_of rfl rfl),fun h=>absurd h (by simp;omega)⟩))))
end PV
set_option linter.all false
set_option Elab.async false
set_option maxHeartbeats 2000000
namespace PV
open PySem (Str)
def shareB (T:List (List Int)) (r:List Int) (x:Int):List Int:=srt (r.map fun y=>tg T y x)
theorem mem_shareB {T:List (List Int)} {r:List Int} {x z:Int}:z ∈ shareB T r x↔∃ y ∈ r,tg T y x=z:=by
 unfold shareB
 rw [(srt_perm _).mem_iff,List.mem_map]
def Loose (T:List (List Int)) (n:Nat) (r:List Int):Prop:=∀ x,El n x→shareL T r x=shareB T r x
def looseB (T:List (List Int)) (n:Nat) (r:List Int):Bool:=(upto n).all fun x=>decide (shareL T r x=shareB T r x)
theorem looseB_iff {T:List (List Int)} {n:Nat} {r:List Int}:looseB T n r=true↔Loose T n r:=by
 simp only [looseB,List.all_eq_true,decide_eq_true_eq]
 exact ⟨fun h x hx=>h x (mem_upto.mpr hx),fun h x hx=>h x (mem_upto.mp hx)⟩
def leadL (T:List (List Int)) (r:List Int) (n:Nat):List Int:=(upto n).filter fun x=>ldS T r x
theorem lead_len {T:List (List Int)} {r:List Int} {n:Nat}:(leadL T r n).length=(sharesL T r n).length:=by unfold leadL sharesL;rw [List.length_map]
theorem share_at {T:List (List Int)} {r:List Int} {n i:Nat} (hi:i < (leadL T r n).length):(sharesL T r n).getD i []=shareL T r ((leadL T r n).getD i 0):=by
 unfold sharesL
 show ((leadL T r n).map (shareL T r)).getD i []=_
 simp [List.getD,hi]
theorem lead_at {T:List (List Int)} {r:List Int} {n i:Nat} (hi:i < (leadL T r n).length):El n ((leadL T r n).getD i 0)∧ldS T r ((leadL T r n).getD i 0)=true:=by
 have:(leadL T r n).getD i 0 ∈ leadL T r n:=by
  rw [List.getD_eq_getElem?_getD,List.getElem?_eq_getElem hi];exact List.getElem_mem hi
 unfold leadL at this
 rw [List.mem_filter,mem_upto] at this
 exact this
structure Plc (T:List (List Int)) (r:List Int) (n:Nat) (P:Int→Nat):Prop where
 lt:∀ x,El n x→P x < (sharesL T r n).length
 at':∀ x,El n x→shareL T r ((leadL T r n).getD (P x) 0)=shareL T r x
theorem plc_ex {T:List (List Int)} {n s:Nat} {r:List Int} (G:Grp T n s) (h:Sg T n s r):∃ P,Plc T r n P:=by
 have ex:∀ x,∃ k:Nat,El n x→k < (sharesL T r n).length∧shareL T r ((leadL T r n).getD k 0)=shareL T r x:=fun x=>by
  by_cases hx:El n x
  ·obtain ⟨z,hz,hl,e⟩:=h.lead G hx
   have hm:z ∈ leadL T r n:=List.mem_filter.mpr ⟨mem_upto.mpr hz,hl⟩
   obtain ⟨k,hk,ek⟩:=List.getElem_of_mem hm
   refine ⟨k,fun _=>⟨by rw [← lead_len];exact hk,?_⟩⟩
   rw [List.getD_eq_getElem?_getD,List.getElem?_eq_getElem hk]
   show shareL T r ((leadL T r n)[k])=_
   rw [ek,e]
  ·exact ⟨0,fun h=>absurd h hx⟩
 obtain ⟨P,hP⟩:=Classical.axiomOfChoice ex
 exact ⟨P,fun x hx=>(hP x hx).1,fun x hx=>(hP x hx).2⟩
section
variable {T:List (List Int)} {n s:Nat} {r:List Int} {P:Int→Nat}
theorem Plc.uniq (G:Grp T n s) (h:Sg T n s r) (p:Plc T r n P) {x:Int} (hx:El n x) {k:Nat} (hk:k < (sharesL T r n).length) (e:shareL T r ((leadL T r n).getD k 0)=shareL T r x):k=P x:=by
 have h1:=p.lt x hx
 rw [← lead_len] at h1 hk
 have e2:=ld_inj (lead_at hk).2 (lead_at h1).2 (e.trans (p.at' x hx).symm)
 have nd:(leadL T r n).Nodup:=(upto_nd n).filter _
 simp [List.getD,hk,h1] at e2
 exact (List.getElem_inj nd).mp e2
theorem Plc.of_mem (G:Grp T n s) (h:Sg T n s r) (p:Plc T r n P) {x:Int} (hx:El n x) {k:Nat} (hk:k < (sharesL T r n).length) (hm:x ∈ (sharesL T r n).getD k []):k=P x:=by
 rw [← lead_len] at hk
 rw [share_at hk] at hm
 exact p.uniq G h hx (by rw [← lead_len];exact hk) (h.sh_eq G (lead_at hk).1 hm).symm
theorem Plc.mem (G:Grp T n s) (h:Sg T n s r) (p:Plc T r n P) {x:Int} (hx:El n x):x ∈ (sharesL T r n).getD (P x) []:=by
 have h1:=p.lt x hx
 rw [share_at (by rw [lead_len];exact h1),p.at' x hx]
 exact h.sh_refl G hx
theorem Plc.eq_iff (G:Grp T n s) (h:Sg T n s r) (p:Plc T r n P) {x y:Int} (hx:El n x) (hy:El n y):P x=P y↔shareL T r x=shareL T r y:=by
 constructor
 ·intro e
  rw [← p.at' x hx,← p.at' y hy,e]
 ·intro e
  exact p.uniq G h hy (p.lt x hx) ((p.at' x hx).trans e)
theorem Plc.lead (G:Grp T n s) (h:Sg T n s r) (p:Plc T r n P) {k:Nat} (hk:k < (sharesL T r n).length):P ((leadL T r n).getD k 0)=k:=by
 have hk':k < (leadL T r n).length:=by rw [lead_len];exact hk
 exact (p.uniq G h (lead_at hk').1 hk rfl).symm
theorem Loose.mul (G:Grp T n s) (h:Sg T n s r) (hl:Loose T n r) {x y x' y':Int} (hx:El n x) (hy:El n y) (hx':El n x') (hy':El n y') (e1:shareL T r x=shareL T r x') (e2:shareL T r y=shareL T r y'):shareL T r (tg T x y)=shareL T r (tg T x' y'):=by
 have m1:x ∈ shareL T r x':=by rw [← e1];exact h.sh_refl G hx
 have m2:y ∈ shareL T r y':=by rw [← e2];exact h.sh_refl G hy
 obtain ⟨u,hu,eu⟩:=mem_shareL.mp m1
 obtain ⟨v,hv,ev⟩:=mem_shareL.mp m2
 have hue:=h.rs.el u hu
 have hve:=h.rs.el v hv
 have m3:tg T u y' ∈ shareL T r y':=by rw [hl y' hy'];exact mem_shareB.mpr ⟨u,hu,rfl⟩
 obtain ⟨w,hw,ew⟩:=mem_shareL.mp m3
 have hwe:=h.rs.el w hw
 refine h.sh_eq G (G.bd hx' hy') (mem_shareL.mpr ⟨tg T w v,h.cls w hw v hv,?_⟩)
 rw [← eu,← ev,G.as hx' hue (G.bd hy' hve),← G.as hue hy' hve,← ew,G.as hy' hwe hve,← G.as hx' hy' (G.bd hwe hve)]
def quoL (T:List (List Int)) (r:List Int) (n:Nat) (P:Int→Nat):List (List Int):=(leadL T r n).map fun a=>(leadL T r n).map fun b=>((P (tg T a b):Nat):Int)
theorem quo_tg (hi:∀ x,El n x→P x < (sharesL T r n).length) {i j:Nat} (h1:i < (leadL T r n).length) (h2:j < (leadL T r n).length):tg (quoL T r n P) i j=P (tg T ((leadL T r n).getD i 0) ((leadL T r n).getD j 0)):=by
 have e1:(quoL T r n P).getD i []=(leadL T r n).map fun b=>((P (tg T ((leadL T r n).getD i 0) b):Nat):Int):=by
  unfold quoL
  simp [List.getD,h1]
 show ((quoL T r n P).getD ((i:Int)).toNat []).getD ((j:Int)).toNat 0=_
 rw [Int.toNat_natCast,Int.toNat_natCast,e1]
 simp [List.getD,h2]
theorem quo_tab (G:Grp T n s) (h:Sg T n s r) (p:Plc T r n P):Tab (quoL T r n P) (sharesL T r n).length:=by
 have hn:=G.tab.top
 have hm:=h.flat_len G
 have hp:=h.pos
 have hl:=sharesL_len T r n
 refine ⟨by unfold quoL;rw [List.length_map,lead_len],fun q hq=>?_,fun q hq x hx=>?_,?_,by omega⟩
 ·obtain ⟨a,_,rfl⟩:=List.mem_map.mp hq
  rw [List.length_map,lead_len]
 ·obtain ⟨a,ha,rfl⟩:=List.mem_map.mp hq
  obtain ⟨b,hb,rfl⟩:=List.mem_map.mp hx
  have ha:=mem_upto.mp (List.mem_filter.mp ha).1
  have hb:=mem_upto.mp (List.mem_filter.mp hb).1
  have:=p.lt _ (G.bd ha hb)
  omega
 ·have:=p.lt _ G.s
  omega
theorem quo_hom (G:Grp T n s) (h:Sg T n s r) (hl:Loose T n r) (p:Plc T r n P) {x y:Int} (hx:El n x) (hy:El n y):tg (quoL T r n P) (P x) (P y)=P (tg T x y):=by
 have h1:=p.lt x hx
 have h2:=p.lt y hy
 have l1:P x < (leadL T r n).length:=by rw [lead_len];exact h1
 have l2:P y < (leadL T r n).length:=by rw [lead_len];exact h2
 rw [quo_tg p.lt l1 l2]
 have e:=(p.eq_iff G h (G.bd (lead_at l1).1 (lead_at l2).1) (G.bd hx hy)).mpr (hl.mul G h (lead_at l1).1 (lead_at l2).1 hx hy (p.at' x hx) (p.at' y hy))
 rw [e]
theorem quo_grp (G:Grp T n s) (h:Sg T n s r) (hl:Loose T n r) (p:Plc T r n P):Grp (quoL T r n P) (sharesL T r n).length (P s):=by
 have on:∀ a:Int,0≤a→a < (sharesL T r n).length→∃ x,El n x∧a=P x:=fun a a0 a1=>by
  obtain ⟨k,hk,rfl⟩:=int_nat a0 a1
  exact ⟨_,(lead_at (by rw [lead_len];exact hk)).1,by rw [p.lead G h hk]⟩
 refine ⟨quo_tab G h p,p.lt _ G.s,fun a b c a0 a1 b0 b1 c0 c1=>?_,fun a a0 a1=>?_,fun a a0 a1=>?_,fun a a0 a1=>?_⟩
 ·obtain ⟨x,hx,rfl⟩:=on a a0 a1
  obtain ⟨y,hy,rfl⟩:=on b b0 b1
  obtain ⟨z,hz,rfl⟩:=on c c0 c1
  rw [quo_hom G h hl p hx hy,quo_hom G h hl p (G.bd hx hy) hz,quo_hom G h hl p hy hz,quo_hom G h hl p hx (G.bd hy hz),G.as hx hy hz]
 ·obtain ⟨x,hx,rfl⟩:=on a a0 a1
  rw [quo_hom G h hl p G.s hx,G.l hx]
 ·obtain ⟨x,hx,rfl⟩:=on a a0 a1
  rw [quo_hom G h hl p hx G.s,G.r hx]
 ·obtain ⟨x,hx,rfl⟩:=on a a0 a1
  obtain ⟨y,hy,e1,e2⟩:=G.i hx
  have:=p.lt y hy
  exact ⟨P y,by omega,by omega,by rw [quo_hom G h hl p hx hy,e1],by rw [quo_hom G h hl p hy hx,e2]⟩
theorem share_rest (G:Grp T n s) (h:Sg T n s r):shareL T r s=r:=by
 refine rise_ext (h.sh_up G G.s) h.rs.up fun x=>?_
 rw [mem_shareL]
 constructor
 ·rintro ⟨y,hy,rfl⟩;rw [G.l (h.rs.el y hy)];exact hy
 ·intro hx;exact ⟨x,hx,G.l (h.rs.el x hx)⟩
theorem whole_sg (G:Grp T n s):Sg T n s (upto n):=⟨⟨fun x hx=>mem_upto.mp hx,upto_up n⟩,mem_upto.mpr G.s,fun a ha b hb=>mem_upto.mpr (G.bd (mem_upto.mp ha) (mem_upto.mp hb))⟩
theorem rest_sg (G:Grp T n s):Sg T n s [(s:Int)]:=⟨⟨fun x hx=>by simp at hx;subst hx;exact G.s,by simp⟩,by simp,fun a ha b hb=>by simp at ha hb;subst ha;subst hb;rw [G.l G.s];simp⟩
theorem mid_sg (G:Grp T n s):Sg T n s (midL T n):=by
 have mem:∀ {x},x ∈ midL T n↔El n x∧∀ a,El n a→tg T x a=tg T a x:=fun {x}=>by
  unfold midL;rw [List.mem_filter,mem_upto,midB_iff];exact Iff.rfl
 refine ⟨⟨fun x hx=>(mem.mp hx).1,(upto_up n).filter _⟩,mem.mpr ⟨G.s,fun a ha=>by rw [G.l ha,G.r ha]⟩,fun a ha b hb=>mem.mpr ?_⟩
 obtain ⟨a1,a2⟩:=mem.mp ha
 obtain ⟨b1,b2⟩:=mem.mp hb
 refine ⟨G.bd a1 b1,fun c hc=>?_⟩
 rw [G.as a1 b1 hc,b2 c hc,← G.as a1 hc b1,a2 c hc,G.as hc a1 b1]
theorem mid_loose (G:Grp T n s):Loose T n (midL T n):=fun x hx=>by
 unfold shareL shareB
 congr 1
 refine List.map_congr_left fun y hy=>?_
 unfold midL at hy
 rw [List.mem_filter,mem_upto,midB_iff] at hy
 exact (hy.2 x hx).symm
theorem rest_loose (G:Grp T n s):Loose T n [(s:Int)]:=fun x hx=>by
 unfold shareL shareB
 simp [G.l hx,G.r hx]
theorem whole_loose (G:Grp T n s):Loose T n (upto n):=fun x hx=>by
 have h:=whole_sg G
 refine rise_ext (h.sh_up G hx) ?_ fun z=>?_
 ·refine rise_of (srt_le _) ((srt_perm _).nodup_iff.mpr ?_)
  unfold List.Nodup
  rw [List.pairwise_map]
  exact List.Pairwise.imp_of_mem (R:=(·≠·)) (fun {a b} ha hb hne e=>hne (G.cr hx (mem_upto.mp ha) (mem_upto.mp hb) e)) (upto_nd n)
 ·rw [mem_shareL,mem_shareB]
  constructor
  ·rintro ⟨y,hy,rfl⟩
   have hy:=mem_upto.mp hy
   obtain ⟨b,hb,h1,h2⟩:=G.i hx
   exact ⟨tg T (tg T x y) b,mem_upto.mpr (G.bd (G.bd hx hy) hb),by rw [G.as (G.bd hx hy) hb hx,h2,G.r (G.bd hx hy)]⟩
  ·rintro ⟨y,hy,rfl⟩
   have hy:=mem_upto.mp hy
   obtain ⟨b,hb,h1,h2⟩:=G.i hx
   exact ⟨tg T b (tg T y x),mem_upto.mpr (G.bd hb (G.bd hy hx)),by rw [← G.as hx hb (G.bd hy hx),h1,G.l (G.bd hy hx)]⟩
theorem quo_rest (G:Grp T n s) (p:Plc T [(s:Int)] n P):(sharesL T [(s:Int)] n).length=n∧Iso T (quoL T [(s:Int)] n P) n (fun x=>(P x:Int)):=by
 have h:=rest_sg G
 have hl:(sharesL T [(s:Int)] n).length=n:=by have:=h.flat_len G;simpa using this
 refine ⟨hl,fun a ha=>?_,fun a b ha hb e=>?_,fun a b ha hb=>(quo_hom G h (rest_loose G) p ha hb).symm⟩
 ·have:=p.lt a ha
  exact ⟨by omega,by omega⟩
 ·have e:P a=P b:=by omega
  have:=(p.eq_iff G h ha hb).mp e
  unfold shareL at this
  simp [G.r ha,G.r hb,srt,ins1] at this
  exact this
theorem quo_whole (G:Grp T n s) (p:Plc T (upto n) n P):quoL T (upto n) n P=[[0]]:=by
 have h:=whole_sg G
 have hn:=G.tab.pos
 have hl:(sharesL T (upto n) n).length=1:=by
  have:=h.flat_len G
  rw [upto_len] at this
  have h2:(sharesL T (upto n) n).length * n=1 * n:=by omega
  exact Nat.eq_of_mul_eq_mul_right (by omega) h2
 have ht:=quo_tab G h p
 rw [hl] at ht
 have h1:=ht.len
 match hq:quoL T (upto n) n P,h1 with
 | [q],_ =>
  have h2:=ht.row q (by rw [hq];simp)
  match q,h2 with
  | [x],_ =>
   have h3:=ht.ent [x] (by rw [hq];simp) x (by simp)
   have:x=0:=by omega
   rw [this]
end
end PV
set_option linter.all false
set_option Elab.async false
set_option maxHeartbeats 2000000
namespace PV
open PySem (Str)
theorem share_behind_eq {T:List (List Int)} {n s:Nat} (G:Grp T n s) {r:List Int} (h:Sg T n s r) {x:Int} (hx:El n x):φ_share_behind [tabD T,rowD r,.int x]=some (rowD (shareB T r x)):=by
 have hn:=G.tab.top
 have hl:=h.rs.len
 refine run_of rfl (wp_ret (evR.ev (evR_fl (evR_sort (compR1 (r:=r) (fun y=>tg T y x) (iOf_R rfl) (by rw [lim_eq];omega) (fun y hy=>?_) ⟨by rw [List.length_map];omega,rfl⟩)))))
 exact evI_ix2 G.tab rfl (evI_of rfl (evI_of rfl ⟨h.rs.el y hy,hx,rfl⟩))
theorem same_sides_eq {T:List (List Int)} {n s:Nat} (G:Grp T n s) {r:List Int} (h:Sg T n s r):φ_same_on_both_sides [tabD T,rowD r]=some (.bl (looseB T n r)):=by
 have hn:=G.tab.top
 refine run_of rfl (wp_ret ?_)
 obtain ⟨d,h1,k,rfl,h2⟩:=tv_allR (i:=2) (e:=eB (tEq (eCall φ_share_ahead [(eVar 0),(eVar 1),(eVar 2)]) (eCall φ_share_behind [(eVar 0),(eVar 1),(eVar 2)]))) (env:=enter 3 [tabD T,rowD r]) (it:=iRng (eF1 fLen (eVar 0))) (P:=(·=looseB T n r)) (r:=upto n) (fun x=>decide (shareL T r x=shareB T r x)) (iRng_upto (eF1_len G.tab rfl) (by omega)) (by rw [upto_len,lim_eq];omega) (fun x hx=>by
  have hx:=mem_upto.mp hx
  exact ev_B (tv_eqR (evR_of ((eCall3 rfl rfl rfl).trans (share_ahead_eq G h hx)) (evR_of ((eCall3 rfl rfl rfl).trans (share_behind_eq G h hx)) rfl)))) rfl
 exact ⟨_,h1,by subst h2;rfl⟩
theorem is_loose_eq {T:List (List Int)} {n s:Nat} (G:Grp T n s) {r:List Int} (h:Sg T n s r):φ_is_loose [tabD T,rowD r]=some (.bl (looseB T n r)) :=
 run_of rfl (wp_seq (wp_do (ev_of ((eCall1 rfl).trans (ask_folk_eq G)) (wp_seq (wp_do (ev_of ((eCall2 rfl rfl).trans (ask_part_eq G h)) (wp_ret (ev_of ((eCall2 rfl rfl).trans (same_sides_eq G h)) rfl))))))))
theorem wp_dnew {i:Nat} {env:Env} {Q:Out→Env→Prop} (k:Q .nx (env.set i (.dc []))):wp (sDNew i) env Q:=⟨_,_,rfl,k⟩
theorem wp_forEn {i j:Nat} {e:Ex} {R:List (List Int)} {b:St} {env:Env} {Q:Out→Env→Prop} (I:Nat→Env→Prop) (hit:e env=some (tabD R)) (h0:I 0 env)
  (step:∀ (k:Nat) en q,R[k]?=some q→I k en→wp b ((en.set i (.sh (.int k))).set j (.sh (rowD q))) (lps (I (k + 1)) Q)) (h1:∀ en,I R.length en→Q .nx en):wp (sFor (g2 i j) (iEnum e) b) env Q:=by
 have el:∀ (k:Nat) (xs:List D),(enumD k xs).length=xs.length:=by
  intro k xs
  induction xs generalizing k with
  | nil=>rfl
  | cons x xs ih=>simp [enumD,ih]
 have eg:∀ (k i:Nat) (xs:List D),(enumD k xs)[i]?=(xs[i]?).map fun d=>D.tup [.int ((k + i:Nat):Int),d]:=by
  intro k i xs
  induction xs generalizing k i with
  | nil=>simp [enumD]
  | cons x xs ih =>
   cases i with
   | zero=>simp [enumD]
   | succ i=>simp only [enumD,List.getElem?_cons_succ];rw [ih (k + 1) i];congr 2;funext d;congr 3;omega
 refine wp_for I (ds:=enumD 0 (R.map rowD)) (by simp only [iEnum,hit,tabD]) h0 (fun k d en hd hI=>?_) (fun en hI=>h1 en (by rwa [el,List.length_map] at hI))
 rw [eg,List.getElem?_map] at hd
 cases hq:R[k]? with
 | none=>rw [hq] at hd;cases hd
 | some q =>
  rw [hq] at hd
  cases hd
  refine ⟨_,rfl,?_⟩
  have:=step k en q hq hI
  simpa using this
theorem table_of_shares_eq {T:List (List Int)} {n s:Nat} (G:Grp T n s) {r:List Int} (h:Sg T n s r) {P:Int→Nat} (p:Plc T r n P):φ_table_of_shares [tabD T,tabD (sharesL T r n)]=some (tabD (quoL T r n P)):=by
 have hT:=G.tab
 have hn:=hT.top
 have hlm:=lim_eq
 have hsl:=sharesL_len T r n
 refine run_of rfl (wp_seq (wp_dnew ?_))
 refine wp_seq (wp_forEn (R:=sharesL T r n) (fun k e=>∃ w z3 z4 z5,(w.map (·.1)).Nodup∧(∀ q ∈ w,El n q.1∧q.2=(P q.1:Int)∧P q.1 < k)∧(∀ x,El n x→P x < k→(x,(P x:Int)) ∈ w)∧e=[.sh (tabD T),.sh (tabD (sharesL T r n)),.dc w,z3,z4,z5,.un,.un,.un,.un]) rfl ⟨[],_,_,_,by simp,by simp,fun x _ hx=>by omega,rfl⟩ (fun k e q hq he=>?_) (fun e he=>?_))
 ·obtain ⟨w,_,_,_,nd,hw,hc,rfl⟩:=he
  have hk:k < (sharesL T r n).length:=(List.getElem?_eq_some_iff.mp hq).1
  have eq:(sharesL T r n).getD k []=q:=by rw [List.getD_eq_getElem?_getD,hq];rfl
  have hk':k < (leadL T r n).length:=by rw [lead_len];exact hk
  have qs:q=shareL T r ((leadL T r n).getD k 0):=by rw [← eq,share_at hk']
  have qel:∀ x ∈ q,El n x∧P x=k:=fun x hx=>by
   rw [qs] at hx
   have hE:=h.sh_el G (lead_at hk').1 hx
   exact ⟨hE,(p.of_mem G h hE hk (by rw [eq,qs];exact hx)).symm⟩
  have qnd:q.Nodup:=by rw [qs];exact (h.sh_up G (lead_at hk').1).imp fun {a b} h=>by omega
  refine wp_forRow (r:=q) (fun j e=>∃ w z5,(w.map (·.1)).Nodup∧(∀ y ∈ w,El n y.1∧y.2=(P y.1:Int)∧(P y.1 < k∨y.1 ∈ q.take j))∧(∀ x,El n x→P x < k→(x,(P x:Int)) ∈ w)∧(∀ x ∈ q.take j,(x,(k:Int)) ∈ w)∧e=[.sh (tabD T),.sh (tabD (sharesL T r n)),.dc w,.sh (.int k),.sh (rowD q),z5,.un,.un,.un,.un]) (iOf_R rfl) ⟨w,_,nd,fun y hy=>⟨(hw y hy).1,(hw y hy).2.1,.inl (hw y hy).2.2⟩,hc,by simp,rfl⟩ (fun j e x hx he=>?_) (fun e he=>?_)
  ·obtain ⟨w,_,nd,hw,hc,hc2,rfl⟩:=he
   have hxq:=List.mem_of_getElem? hx
   obtain ⟨xE,xP⟩:=qel x hxq
   have hno:dget w x=none:=by
    rw [dget_no]
    intro hm
    obtain ⟨y,hy,rfl⟩:=List.mem_map.mp hm
    rcases (hw y hy).2.2 with h1 | h1
    ·omega
    ·obtain ⟨i,hi,ei⟩:=List.getElem_of_mem h1
     rw [List.length_take] at hi
     rw [List.getElem_take] at ei
     obtain ⟨hj,ej⟩:=List.getElem?_eq_some_iff.mp hx
     have:=(List.getElem_inj qnd).mp (ei.trans ej.symm)
     omega
   have hwl:w.length≤n:=by
    have:=nd_len (n:=n) nd fun z hz=>by
     obtain ⟨y,hy,rfl⟩:=List.mem_map.mp hz
     exact (hw y hy).1
    rwa [List.length_map] at this
   refine wp_dput (kvs:=w) rfl rfl rfl (by omega) ?_
   rw [dput_new hno]
   have tk:q.take (j + 1)=q.take j++[x]:=by rw [List.take_add_one,hx];rfl
   refine ⟨_,_,?_,fun y hy=>?_,fun z hz1 hz2=>List.mem_append_left _ (hc z hz1 hz2),fun z hz=>?_,rfl⟩
   ·rw [List.map_append,List.nodup_append]
    refine ⟨nd,by simp,fun a ha b hb=>?_⟩
    simp at hb;subst hb
    rintro rfl
    exact dget_no.mp hno ha
   ·rw [tk]
    rcases List.mem_append.mp hy with hy | hy
    ·refine ⟨(hw y hy).1,(hw y hy).2.1,?_⟩
     rcases (hw y hy).2.2 with h1 | h1
     ·exact .inl h1
     ·exact .inr (List.mem_append_left _ h1)
    ·simp at hy;subst hy
     exact ⟨xE,by rw [xP],.inr (by simp)⟩
   ·rw [tk] at hz
    rcases List.mem_append.mp hz with hz | hz
    ·exact List.mem_append_left _ (hc2 z hz)
    ·simp at hz;subst hz;simp
  ·obtain ⟨w,_,nd,hw,hc,hc2,rfl⟩:=he
   rw [List.take_length] at hw hc2
   refine ⟨w,_,_,_,nd,fun y hy=>⟨(hw y hy).1,(hw y hy).2.1,?_⟩,fun x hx1 hx2=>?_,rfl⟩
   ·rcases (hw y hy).2.2 with h1 | h1
    ·omega
    ·have:=(qel _ h1).2;omega
   ·rcases Nat.lt_or_ge (P x) k with h1 | h1
    ·exact hc x hx1 h1
    ·have e1:P x=k:=by omega
     have hm:=p.mem G h hx1
     rw [e1,eq] at hm
     rw [e1]
     exact hc2 x hm
 ·obtain ⟨w,z3,z4,z5,nd,hw,hc,rfl⟩:=he
  have get:∀ x,El n x→dget w x=some (P x:Int):=fun x hx=>(dget_mem nd).mpr (hc x hx (p.lt x hx))
  refine wp_seq (wp_set (evR.ev (compTI (T:=sharesL T r n) (fun _=>true) (fun q=>q.getD 0 0) (iOf_T rfl) (by omega) (fun q hq=>tv_of rfl rfl) (fun q hq _=>evI_ixR (evR_of rfl (evI_of rfl ⟨⟨by omega,?_⟩,rfl⟩))) ?_)))
  ·rw [sh_rows hq];have:=h.pos;omega
  have eh:((sharesL T r n).filter fun _=>true).map (fun q=>q.getD 0 0)=leadL T r n:=by
   rw [List.filter_eq_self.mpr (fun _ _=>rfl)]
   unfold sharesL
   rw [List.map_map]
   conv=>rhs;rw [← List.map_id (leadL T r n)]
   refine List.map_congr_left fun x hx=>?_
   have:=(List.mem_filter.mp hx).2
   exact of_decide_eq_true this
  rw [eh]
  have hll:(leadL T r n).length≤n:=by rw [lead_len];exact hsl
  have lel:∀ x ∈ leadL T r n,El n x:=fun x hx=>mem_upto.mp (List.mem_filter.mp hx).1
  refine wp_seq (wp_own (ev_of rfl ⟨_,rfl,?_⟩))
  refine wp_seq (wp_forRow (r:=leadL T r n) (fun k e=>∃ z4 z8 z9 sl,(sl=.dc w∨sl=.sh (.dct w))∧e=[.sh (tabD T),.sh (tabD (sharesL T r n)),sl,z3,z4,z5,.sh (rowD (leadL T r n)),.ow ((((leadL T r n).take k).map fun a=>(leadL T r n).map fun b=>((P (tg T a b):Nat):Int)).map rowD),z8,z9]) (iOf_R rfl) ⟨z4,.un,.un,_,.inl rfl,rfl⟩ (fun k e x hx he=>?_) (fun e he=>?_))
  ·obtain ⟨z4,z8,z9,sl,hsl',rfl⟩:=he
   have hxm:=List.mem_of_getElem? hx
   have hxe:=lel x hxm
   have fz:wp (sFrz 2) [.sh (tabD T),.sh (tabD (sharesL T r n)),sl,z3,z4,z5,.sh (rowD (leadL T r n)),.ow ((((leadL T r n).take k).map fun a=>(leadL T r n).map fun b=>((P (tg T a b):Nat):Int)).map rowD),.sh (.int x),z9] (fun o e=>o=.nx∧e=[.sh (tabD T),.sh (tabD (sharesL T r n)),.sh (.dct w),z3,z4,z5,.sh (rowD (leadL T r n)),.ow ((((leadL T r n).take k).map fun a=>(leadL T r n).map fun b=>((P (tg T a b):Nat):Int)).map rowD),.sh (.int x),z9]):=by
    rcases hsl' with rfl | rfl
    ·exact wp_frzD (kvs:=w) rfl ⟨rfl,rfl⟩
    ·exact wp_frzS rfl ⟨rfl,rfl⟩
   refine wp_seq (fz.mono fun o e h'=>?_)
   obtain ⟨rfl,rfl⟩:=h'
   refine wp_appR (T:=((leadL T r n).take k).map fun a=>(leadL T r n).map fun b=>((P (tg T a b):Nat):Int)) rfl (compR1 (r:=leadL T r n) (fun b=>((P (tg T x b):Nat):Int)) (iOf_R rfl) (by omega) (fun b hb=>?_) ⟨by rw [List.length_map,List.length_take];omega,?_⟩)
   ·have hbe:=lel b hb
    obtain ⟨v,hv1,hv2⟩:=evI_ix2 (P:=(·=tg T x b)) (e0:=eVar 0) (e1:=eVar 8) (e2:=eVar 9) (env:=[Sl.sh (tabD T),.sh (tabD (sharesL T r n)),.sh (.dct w),z3,z4,z5,.sh (rowD (leadL T r n)),.ow ((((leadL T r n).take k).map fun a=>(leadL T r n).map fun b=>((P (tg T a b):Nat):Int)).map rowD),.sh (.int x),.sh (.int b)]) hT rfl (evI_of rfl (evI_of rfl ⟨hxe,hbe,rfl⟩))
    rw [hv2] at hv1
    exact evI_of (getD_of rfl hv1 (get _ (G.bd hxe hbe))) rfl
   ·refine ⟨z4,.sh (.int x),z9,_,.inr rfl,?_⟩
    have tk:(leadL T r n).take (k + 1)=(leadL T r n).take k++[x]:=by rw [List.take_add_one,hx];rfl
    simp only [tk,List.map_append]
    rfl
  ·obtain ⟨z4,z8,z9,sl,hsl',rfl⟩:=he
   rw [List.take_length]
   exact wp_seq (wp_frz rfl (wp_ret (ev_of rfl rfl)))
theorem taken_out_eq {T:List (List Int)} {n s:Nat} (G:Grp T n s) {r:List Int} (h:Sg T n s r) (hl:Loose T n r) {P:Int→Nat} (p:Plc T r n P):φ_taken_out [tabD T,rowD r]=some (tabD (quoL T r n P)):=by
 refine run_of rfl (wp_seq (wp_do (ev_of ((eCall1 rfl).trans (ask_folk_eq G)) ?_)))
 refine wp_seq (wp_do (ev_of ((eCall2 rfl rfl).trans (ask_part_eq G h)) ?_))
 refine wp_seq (wp_no (tv_not (tv_B (ev_of ((eCall2 rfl rfl).trans (same_sides_eq G h)) ⟨_,rfl,by rw [looseB_iff.mpr hl];rfl⟩))) ?_)
 refine wp_seq (wp_set (ev_of ((eCall2 rfl rfl).trans (all_shares_eq G h)) ?_))
 exact wp_ret (ev_of ((eCall2 rfl rfl).trans (table_of_shares_eq G h p)) rfl)
end PV
set_option linter.all false
set_option Elab.async false
set_option maxHeartbeats 2000000
namespace PV
open PySem (Str)
theorem full_of {n:Nat} {r:List Int} (nd:r.Nodup) (el:∀ x ∈ r,El n x) (hl:r.length=n):r.Perm (upto n):=by
 refine (List.perm_ext_iff_of_nodup nd (upto_nd n)).mpr fun x=>⟨fun hx=>mem_upto.mpr (el x hx),fun hx=>?_⟩
 apply Classical.byContradiction
 intro hx'
 have:=(List.nodup_cons.mpr ⟨hx',nd⟩).length_le_of_subset (l₂:=upto n) fun y hy=>by
  rcases List.mem_cons.mp hy with rfl | hy
  ·exact hx
  ·exact mem_upto.mpr (el y hy)
 rw [List.length_cons,upto_len] at this
 omega
theorem Iso.perm {A B:List (List Int)} {n:Nat} {g:Int→Int} (h:Iso A B n g):((upto n).map g).Perm (upto n):=by
 refine full_of ?_ (fun x hx=>?_) (by rw [List.length_map,upto_len])
 ·unfold List.Nodup
  rw [List.pairwise_map]
  exact List.Pairwise.imp_of_mem (R:=(·≠·)) (fun {a b} ha hb hne he=>hne (h.inj a b (mem_upto.mp ha) (mem_upto.mp hb) he)) (upto_nd n)
 ·obtain ⟨a,ha,rfl⟩:=List.mem_map.mp hx
  exact h.el a (mem_upto.mp ha)
theorem Iso.inv {A B:List (List Int)} {n s:Nat} (GA:Grp A n s) {g:Int→Int} (h:Iso A B n g):∃ g',Iso B A n g':=by
 have on:∀ y,∃ x,El n y→El n x∧g x=y:=fun y=>by
  by_cases hy:El n y
  ·have:=h.perm.mem_iff.mpr (mem_upto.mpr hy)
   obtain ⟨x,hx,e⟩:=List.mem_map.mp this
   exact ⟨x,fun _=>⟨mem_upto.mp hx,e⟩⟩
  ·exact ⟨0,fun h=>absurd h hy⟩
 obtain ⟨g',hg'⟩:=Classical.axiomOfChoice on
 refine ⟨g',fun a ha=>(hg' a ha).1,fun a b ha hb e=>by rw [← (hg' a ha).2,← (hg' b hb).2,e],fun a b ha hb=>?_⟩
 obtain ⟨a1,a2⟩:=hg' a ha
 obtain ⟨b1,b2⟩:=hg' b hb
 have hab:tg B a b=g (tg A (g' a) (g' b)):=by rw [h.mul _ _ a1 b1,a2,b2]
 have hE:El n (tg B a b):=by rw [hab];exact h.el _ (GA.bd a1 b1)
 obtain ⟨c1,c2⟩:=hg' _ hE
 exact h.inj _ _ c1 (GA.bd a1 b1) (c2.trans hab)
theorem evR_eq {e:Ex} {env:Env} {i:List Int} (h:evR e env (·=i)):e env=some (rowD i):=let ⟨x,a,b⟩:=h;b ▸ a
theorem eCall4 {φ:List D→Option D} {a b c d:Ex} {env:Env} {x y z w:D} (h:a env=some x) (h2:b env=some y) (h3:c env=some z) (h4:d env=some w):eCall φ [a,b,c,d] env=φ [x,y,z,w]:=by simp [eCall,evs,h,h2,h3,h4]
theorem getT_mem {P:List (List Int)} {i:Nat} (h:i < P.length):P.getD i [] ∈ P:=by
 rw [List.getD_eq_getElem?_getD,List.getElem?_eq_getElem h];exact List.getElem_mem h
theorem filter_one {r:List Int} (hn:r.Nodup) {x:Int} (hx:x ∈ r) {p:Int→Bool} (hp:∀ y ∈ r,p y=true↔y=x):r.filter p=[x]:=by
 induction r with
 | nil=>simp at hx
 | cons y r ih =>
  rw [List.nodup_cons] at hn
  by_cases hy:y=x
  ·subst hy
   rw [List.filter_cons_of_pos ((hp y List.mem_cons_self).mpr rfl)]
   congr 1
   rw [List.filter_eq_nil_iff]
   intro z hz hpz
   have:=(hp z (List.mem_cons_of_mem _ hz)).mp hpz
   subst this
   exact hn.1 hz
  ·rw [List.filter_cons_of_neg (fun h=>hy ((hp y List.mem_cons_self).mp h))]
   refine ih hn.2 ?_ (fun z hz=>hp z (List.mem_cons_of_mem _ hz))
   rcases List.mem_cons.mp hx with rfl | h
   ·exact absurd rfl hy
   ·exact h
theorem law_place_eq {T:List (List Int)} {n s:Nat} (G:Grp T n s) {r:List Int} (h:Sg T n s r) {P:Int→Nat} (p:Plc T r n P) {x:Int} (hx:El n x):φ_law_place [tabD (sharesL T r n),.int x]=some (.int (P x)):=by
 have hn:=G.tab.top
 have hsl:=sharesL_len T r n
 have hlm:=lim_eq
 have hp:=p.lt x hx
 refine run_of rfl (wp_ret (evI.ev (evI_ixR (compR (r:=upto (sharesL T r n).length) (fun k=>decide (x ∈ (sharesL T r n).getD k.toNat [])) (fun k=>k) (iRng_upto (evI_lenT (P:=(·=((sharesL T r n).length:Int))) (evT_of rfl rfl)).eq (by omega)) (by rw [upto_len];omega) (fun k hk=>?_) (fun k hk _=>evI_of rfl rfl) ?_))))
 ·have hk:=mem_upto.mp hk
  exact tv_inR (evI_of rfl (evR_ixT (evT_of rfl (evI_of rfl ⟨hk,rfl⟩))))
 ·rw [List.map_id',filter_one (upto_nd _) (x:=(P x:Int)) (mem_upto.mpr ⟨by omega,by omega⟩) (fun y hy=>?_)]
  ·exact evI_of rfl ⟨⟨by omega,by simp⟩,rfl⟩
  ·obtain ⟨k,hk,rfl⟩:=int_nat (mem_upto.mp hy).1 (mem_upto.mp hy).2
   rw [decide_eq_true_eq,Int.toNat_natCast]
   constructor
   ·intro hm;rw [p.of_mem G h hx hk hm]
   ·intro e
    have e:k=P x:=by omega
    rw [e];exact p.mem G h hx
theorem law_right_eq {T:List (List Int)} {n s:Nat} (G:Grp T n s) {r:List Int} (h:Sg T n s r) (hl:Loose T n r) {a b:Int} (ha:El n a) (hb:El n b):φ_law_right [tabD T,rowD r,.int a,.int b]=some (.bl true):=by
 obtain ⟨P,p⟩:=plc_ex G h
 have Q:=quo_grp G h hl p
 have hps:=p.lt s G.s
 have hpa:=p.lt a ha
 have hpb:=p.lt b hb
 have hab:=G.bd ha hb
 refine run_of rfl (wp_seq (wp_set (ev_of ((eCall2 rfl rfl).trans (taken_out_eq G h hl p)) ?_)))
 refine wp_seq (wp_set (ev_of ((eCall2 (x:=tabD T) (y:=rowD r) rfl rfl).trans (shares_eq G h)) ?_))
 refine wp_seq (wp_no (tv_or (tv_neI (evI_of (eF1_len Q.tab rfl) (evI_lenT (evT_of rfl ⟨fun h=>?_,fun _=>tv_or (tv_noN (ev_of ((eCall1 rfl).trans (flaw_eq Q.tab)) ⟨fun h=>?_,fun _=>tv_neR (evR_ixT (evT_of rfl (evI_of ((eCall1 rfl).trans (rest_eq Q)) ⟨⟨by omega,by omega⟩,evR_of rfl ?_⟩)))⟩))⟩))))) ?_)
 ·simp at h
 ·rw [Q.flaw] at h;cases h
 ·rw [Int.toNat_natCast,share_at (by rw [lead_len];exact hps),p.at' _ G.s,share_rest G h];simp
 ·refine wp_ret (ev_B (tv_eqI (evI_ix2 Q.tab rfl (evI_of ((eCall2 rfl rfl).trans (law_place_eq G h p ha)) (evI_of ((eCall2 rfl rfl).trans (law_place_eq G h p hb)) ⟨⟨by omega,by omega⟩,⟨by omega,by omega⟩,?_⟩)))))
  refine ev_callI2 (ev_of rfl (evI.ev (evI_ix2 G.tab rfl (evI_of rfl (evI_of rfl ⟨ha,hb,_,law_place_eq G h p hab,?_⟩)))))
  rw [quo_hom G h hl p ha hb];simp [ends]
theorem law09 (ns:List Int):φ_law [rowD ns]=some (.bl true):=by
 obtain ⟨n,s,T,eT,G,few⟩:=law_folk_grpP ns 0
 have hT:=G.tab
 have hn:=hT.top
 have hl:=hT.len
 have hpos:=hT.pos
 obtain ⟨P,eP,hnd,hP,hPs⟩:=parts_ex G few
 have hPl:P.length < 64:=few P hnd fun r hr=>(hP r).mp hr
 have hP0:0 < P.length:=List.length_pos_of_mem ((hP _).mpr (whole_sg G))
 obtain ⟨a,ha,ea⟩:=mod_nat (cellV ns 2) hpos
 obtain ⟨b,hb,eb⟩:=mod_nat (cellV ns 3) hpos
 obtain ⟨c,hc,ec⟩:=mod_nat (cellV ns 4) hP0
 obtain ⟨d,hd,ed⟩:=mod_nat (cellV ns 5) hP0
 refine run_of rfl (wp_seq (wp_set (ev_of ((eCall2 rfl rfl).trans eT) ?_)))
 refine wp_seq (wp_set (evI.ev (evI_mod (evI_of ((eCall2 rfl rfl).trans (law_cell_at_eq ns 2)) (evI_of (eF1_len hT rfl) ⟨by omega,?_⟩)))))
 rw [show cellV ns 2 % (n:Int)=(a:Int) from ea]
 refine wp_seq (wp_set (evI.ev (evI_mod (evI_of ((eCall2 rfl rfl).trans (law_cell_at_eq ns 3)) (evI_of (eF1_len hT rfl) ⟨by omega,?_⟩)))))
 rw [show cellV ns 3 % (n:Int)=(b:Int) from eb]
 refine wp_seq (wp_set (ev_of ((eCall1 rfl).trans eP) ?_))
 have e3:eLst [(eC (.int 0)),(e2I iMod (eCall φ_law_cell_at [(eVar 0),(eC (.int 4))]) (eF1 fLen (eVar 4))),(e2I iMod (eCall φ_law_cell_at [(eVar 0),(eC (.int 5))]) (eF1 fLen (eVar 4)))] [.sh (rowD ns),.sh (tabD T),.sh (.int a),.sh (.int b),.sh (tabD P),.un,.un]=some (rowD [0,(c:Int),(d:Int)]):=by
  have c4:e2I iMod (eCall φ_law_cell_at [(eVar 0),(eC (.int 4))]) (eF1 fLen (eVar 4)) [.sh (rowD ns),.sh (tabD T),.sh (.int a),.sh (.int b),.sh (tabD P),.un,.un]=some (.int c) :=
   (evI_mod (P:=(·=(c:Int))) (evI_of ((eCall2 rfl rfl).trans (law_cell_at_eq ns 4)) (evI_lenT (evT_of rfl ⟨by omega,ec⟩)))).eq
  have c5:e2I iMod (eCall φ_law_cell_at [(eVar 0),(eC (.int 5))]) (eF1 fLen (eVar 4)) [.sh (rowD ns),.sh (tabD T),.sh (.int a),.sh (.int b),.sh (tabD P),.un,.un]=some (.int d) :=
   (evI_mod (P:=(·=(d:Int))) (evI_of ((eCall2 rfl rfl).trans (law_cell_at_eq ns 5)) (evI_lenT (evT_of rfl ⟨by omega,ed⟩)))).eq
  simp only [eLst,evs,c4,c5];rfl
 refine wp_seq (wp_forRow (r:=[0,(c:Int),(d:Int)]) (fun _ e=>∃ z5 z6,e=[.sh (rowD ns),.sh (tabD T),.sh (.int a),.sh (.int b),.sh (tabD P),z5,z6]) (iOf_R e3) ⟨_,_,rfl⟩ (fun k e x hx he=>?_) (fun e he=>?_))
 ·obtain ⟨_,_,rfl⟩:=he
  obtain ⟨q,hq,rfl⟩:∃ q:Nat,q < P.length∧x=q:=by
   have hm:=List.mem_of_getElem? hx
   simp at hm
   rcases hm with rfl | rfl | rfl
   ·exact ⟨0,hP0,rfl⟩
   ·exact ⟨c,hc,rfl⟩
   ·exact ⟨d,hd,rfl⟩
  have hS:=(hP _).mp (getT_mem hq)
  refine wp_seq (wp_set (evR.ev (evR_ixT (evT_of rfl (evI_of rfl ⟨⟨by omega,by omega⟩,?_⟩)))))
  rw [Int.toNat_natCast]
  refine wp_no (tv_and (tv_B (ev_of ((eCall2 (x:=tabD T) (y:=rowD (P.getD q [])) rfl rfl).trans (is_loose_eq G hS)) ⟨_,rfl,fun hlo=>tv_not (tv_B (ev_of ((eCall4 rfl rfl rfl rfl).trans (law_right_eq G hS (looseB_iff.mp hlo) (El.of ha) (El.of hb))) ⟨_,rfl,rfl⟩)),fun _=>rfl⟩))) ⟨_,_,rfl⟩
 obtain ⟨z5,z6,rfl⟩:=he
 obtain ⟨PW,pw⟩:=plc_ex G (whole_sg G)
 obtain ⟨PR,pr⟩:=plc_ex G (rest_sg G)
 have tw:∀ env:Env,eVar 1 env=some (tabD T)→eCall φ_taken_out [(eVar 1),(eF1 fRangeList (eF1 fLen (eVar 1)))] env=some (tabD [[0]]):=fun env e1=>by
  refine (eCall2 e1 (?_:_=some (rowD (upto n)))).trans ?_
  ·exact evR_eq (evR_range (evI_of (eF1_len hT e1) ⟨n,rfl,by omega,rfl⟩))
  ·rw [taken_out_eq G (whole_sg G) (whole_loose G) pw,quo_whole G pw]
 refine wp_seq (wp_no (tv_or (tv_neT (evT_of (tw _ rfl) (evT_of (d:=[[0]]) rfl ⟨fun h=>by simp at h,fun _=>tv_not (tv_B (ev_of ((eCall2 rfl ((eCall1 rfl).trans (middle_eq G))).trans (is_loose_eq G (mid_sg G))) ⟨_,rfl,by rw [looseB_iff.mpr (mid_loose G)];rfl⟩))⟩)))) ?_)
 have er:∀ env:Env,eVar 1 env=some (tabD T)→eLst [(eCall φ_rest [(eVar 1)])] env=some (rowD [(s:Int)]):=fun env e1=>evR_eq (evR_lst1 (evI_of ((eCall1 e1).trans (rest_eq G)) rfl))
 have QR:=quo_grp G (rest_sg G) (rest_loose G) pr
 obtain ⟨hql,hiso⟩:=quo_rest G pr
 rw [hql] at QR
 obtain ⟨gi,hgi⟩:=hiso.inv G
 obtain ⟨dd,edd,hdd⟩:=renaming_ex QR G
 have hno:dd.isN=false:=by
  rcases hdd with ⟨h,_⟩ | ⟨_,⟨_,h⟩ | ⟨r,rfl,_⟩⟩
  ·exact absurd rfl h
  ·exact absurd hgi (h gi)
  ·rfl
 refine wp_ret (ev_B (tv_and (tv_noN (ev_of ((eCall2 ((eCall2 rfl (er _ rfl)).trans (taken_out_eq G (rest_sg G) (rest_loose G) pr)) rfl).trans edd) ⟨fun _=>tv_inT (evR_of ((eCall1 rfl).trans (middle_eq G)) (evT_of rfl ?_)),fun h=>?_⟩))))
 ·have:=(hP _).mpr (mid_sg G)
  simp [this,ends]
 ·rw [hno] at h;cases h
end PV
set_option linter.all false
set_option Elab.async false
set_option maxRecDepth 100000
set_option maxHeartbeats 4000000
namespace PV
open PySem PySem.Spec PyProof.Rows
open L2 (V Hp HO Same Cx)
theorem seq_nx_inv {a b:St} {env env':Env} (h:sSeq a b env=some (.nx,env')):∃ e1,a env=some (.nx,e1)∧b e1=some (.nx,env'):=by
 unfold sSeq at h
 split at h
 ·rename_i e1 h1;exact ⟨e1,h1,h⟩
 ·rename_i r hne
  cases hr:a env with
  | none=>rw [hr] at h;cases h
  | some p =>
   obtain ⟨o,e1⟩:=p
   rw [hr] at h
   cases h
   exact absurd hr (hne _)
def top (i:Nat):Stmt:=PySem.Challenge.pw_tablefolk_k09_whole_what_is_left.main.body.getD i (.Pass ⟨0,0,0,0⟩)
abbrev st_is_element:Stmt:=top 12
theorem sc_is_element:L2.FnScope ["table","number"] ["table","number"] (L2.defScope st_is_element):=⟨rfl,rfl,rfl,by decide +kernel,rfl,by decide +kernel,by decide +kernel⟩
theorem ok_is_element {P:Program} {w:World} {K:PySem.W.Frag} {mg:Str→Option Value} {base:Heap} {f:Addr} {fd:FuncData} (F:L2.Fun K "is_element" "is_element" st_is_element f fd) (T:Bt mg) :
  L2.FnOk P w K mg base L2.CX0 1 f fd ["table","number"] (spR K (rk K .k) φ_is_element) :=
 fn_ok (N:=["table","number"]) (ps:=["table","number"]) (k:=0) (m:=(rk K .k)) (g:=R_is_element) F sc_is_element (.inl (rk_non _)) fun cdv A outer s H E hr=>by
  have hu:=hr.units
  have nd:=sc_is_element.nd
  have nox:∀ (e:Value) (s:Shared),False→False:=fun _ _ h=>h
  exact (pss_last (ps_rete (((pv_and (m:=.k) (pv_ge (m:=.k) (pd_var 1) (pd_int (m:=.k))) (pv_oneAnd (pv_lt (m:=.k) (pd_var 1) (pd_len (m:=.k) T (pd_var 0)))))))))
abbrev st_ask_table:Stmt:=top 10
theorem sc_ask_table:L2.FnScope ["table","size","row","number"] ["table"] (L2.defScope st_ask_table):=⟨rfl,rfl,rfl,by decide +kernel,rfl,by decide +kernel,by decide +kernel⟩
theorem ok_ask_table {P:Program} {w:World} {K:PySem.W.Frag} {mg:Str→Option Value} {base:Heap} {f:Addr} {fd:FuncData} (F:L2.Fun K "ask_table" "ask_table" st_ask_table f fd) (T:Bt mg) (C_MOST_ROWS:∃ t,mg "MOST_ROWS"=some (.int 12 t)) (G_is_element:Cal P w K mg base 1 "is_element" (rk K .k) φ_is_element) :
  L2.FnOk P w K mg base L2.CX0 2 f fd ["table"] (spR K (rk K .k) φ_ask_table) :=
 fn_ok (N:=["table","size","row","number"]) (ps:=["table"]) (k:=1) (m:=(rk K .k)) (g:=R_ask_table) F sc_ask_table (.inl (rk_non _)) fun cdv A outer s H E hr=>by
  have hu:=hr.units
  have nd:=sc_ask_table.nd
  have nox:∀ (e:Value) (s:Shared),False→False:=fun _ _ h=>h
  exact (pss_more (ps_sets nd 1 (pd_len (m:=.k) T (pd_var 0))) (pss_more (ps_iff (pw_t (pt_or (pt_lt (pd_var 1) (pd_int (m:=.k))) (pt_oneOr (pt_gt (pd_var 1) (pd_con (m:=.k) (hm:=C_MOST_ROWS)))))) (pss_last (ps_nev)) ps_nil) (pss_last (ps_fore (pi_of (pd_var 0)) (pg_n nd 2) (pss_more (ps_iff (pt_ne hu (pd_len (m:=.k) T (pd_var 2)) (pd_var 1)) (pss_last (ps_nev)) ps_nil) (pss_last (ps_iff (pt_not (pt_of (pd_all (m:=.k) T (pd_comp nox nd 3 (pi_of (pd_var 2)) (fun _ _ _ _ _ _=>(pd_call G_is_element (hr.mono (by decide)) (pa_one (pd_var 0) (pa_one (pd_var 3) pa_no)))))))) (pss_last (ps_nev)) ps_nil)))))))
abbrev st_find_three:Stmt:=top 14
theorem sc_find_three:L2.FnScope ["table","size","a","b","c"] ["table"] (L2.defScope st_find_three):=⟨rfl,rfl,rfl,by decide +kernel,rfl,by decide +kernel,by decide +kernel⟩
theorem ok_find_three {P:Program} {w:World} {K:PySem.W.Frag} {mg:Str→Option Value} {base:Heap} {f:Addr} {fd:FuncData} (F:L2.Fun K "find_three" "find_three" st_find_three f fd) (T:Bt mg) :
  L2.FnOk P w K mg base L2.CX0 1 f fd ["table"] (spR K (rk K .k) φ_find_three) :=
 fn_ok (N:=["table","size","a","b","c"]) (ps:=["table"]) (k:=0) (m:=(rk K .k)) (g:=R_find_three) F sc_find_three (.inl (rk_non _)) fun cdv A outer s H E hr=>by
  have hu:=hr.units
  have nd:=sc_find_three.nd
  have nox:∀ (e:Value) (s:Shared),False→False:=fun _ _ h=>h
  exact (pss_more (ps_sets nd 1 (pd_len (m:=.k) T (pd_var 0))) (pss_more (ps_fore (pi_rng T (pd_var 1)) (pg_n nd 2) (pss_last (ps_fore (pi_rng T (pd_var 1)) (pg_n nd 3) (pss_last (ps_fore (pi_rng T (pd_var 1)) (pg_n nd 4) (pss_last (ps_iff (pt_ne hu (pd_ix (pd_ix (pd_var 0) (pd_ix (pd_ix (pd_var 0) (pd_var 2)) (pd_var 3))) (pd_var 4)) (pd_ix (pd_ix (pd_var 0) (pd_var 2)) (pd_ix (pd_ix (pd_var 0) (pd_var 3)) (pd_var 4)))) (pss_last (ps_rete (pd_tup (pa_one (pd_str (m:=.k)) (pa_one (pd_var 2) (pa_one (pd_var 3) (pa_one (pd_var 4) pa_no))))))) ps_nil))))))) (pss_last (ps_rete (pd_non (m:=.k))))))
abbrev st_find_rest:Stmt:=top 15
theorem sc_find_rest:L2.FnScope ["table","size","still","a"] ["table"] (L2.defScope st_find_rest):=⟨rfl,rfl,rfl,by decide +kernel,rfl,by decide +kernel,by decide +kernel⟩
theorem ok_find_rest {P:Program} {w:World} {K:PySem.W.Frag} {mg:Str→Option Value} {base:Heap} {f:Addr} {fd:FuncData} (F:L2.Fun K "find_rest" "find_rest" st_find_rest f fd) (T:Bt mg) :
  L2.FnOk P w K mg base L2.CX0 1 f fd ["table"] (spR K (rk K .k) φ_find_rest) :=
 fn_ok (N:=["table","size","still","a"]) (ps:=["table"]) (k:=0) (m:=(rk K .k)) (g:=R_find_rest) F sc_find_rest (.inl (rk_non _)) fun cdv A outer s H E hr=>by
  have hu:=hr.units
  have nd:=sc_find_rest.nd
  have nox:∀ (e:Value) (s:Shared),False→False:=fun _ _ h=>h
  exact (pss_more (ps_sets nd 1 (pd_len (m:=.k) T (pd_var 0))) (pss_more (ps_fore (pi_rng T (pd_var 1)) (pg_n nd 2) (pss_last (ps_iff (pt_of (pd_all (m:=.k) T (pd_comp nox nd 3 (pi_rng T (pd_var 1)) (fun _ _ _ _ _ _=>(((pv_and (m:=.k) (pv_eq (m:=.k) hu (pd_ix (pd_ix (pd_var 0) (pd_var 2)) (pd_var 3)) (pd_var 3)) (pv_oneAnd (pv_eq (m:=.k) hu (pd_ix (pd_ix (pd_var 0) (pd_var 3)) (pd_var 2)) (pd_var 3)))))))))) (pss_last (ps_rete (pd_var 2))) ps_nil))) (pss_last (ps_rete (pd_non (m:=.k))))))
abbrev st_find_back:Stmt:=top 16
theorem sc_find_back:L2.FnScope ["table","still","element","other"] ["table","still","element"] (L2.defScope st_find_back):=⟨rfl,rfl,rfl,by decide +kernel,rfl,by decide +kernel,by decide +kernel⟩
theorem ok_find_back {P:Program} {w:World} {K:PySem.W.Frag} {mg:Str→Option Value} {base:Heap} {f:Addr} {fd:FuncData} (F:L2.Fun K "find_back" "find_back" st_find_back f fd) (T:Bt mg) :
  L2.FnOk P w K mg base L2.CX0 1 f fd ["table","still","element"] (spR K (rk K .k) φ_find_back) :=
 fn_ok (N:=["table","still","element","other"]) (ps:=["table","still","element"]) (k:=0) (m:=(rk K .k)) (g:=R_find_back) F sc_find_back (.inl (rk_non _)) fun cdv A outer s H E hr=>by
  have hu:=hr.units
  have nd:=sc_find_back.nd
  have nox:∀ (e:Value) (s:Shared),False→False:=fun _ _ h=>h
  exact (pss_more (ps_fore (pi_rng T (pd_len (m:=.k) T (pd_var 0))) (pg_n nd 3) (pss_last (ps_iff (pw_t (pt_and (pt_eq hu (pd_ix (pd_ix (pd_var 0) (pd_var 2)) (pd_var 3)) (pd_var 1)) (pt_oneAnd (pt_eq hu (pd_ix (pd_ix (pd_var 0) (pd_var 3)) (pd_var 2)) (pd_var 1))))) (pss_last (ps_rete (pd_var 3))) ps_nil))) (pss_last (ps_rete (pd_non (m:=.k)))))
abbrev st_find_flaw:Stmt:=top 13
theorem sc_find_flaw:L2.FnScope ["table","three","still","element"] ["table"] (L2.defScope st_find_flaw):=⟨rfl,rfl,rfl,by decide +kernel,rfl,by decide +kernel,by decide +kernel⟩
theorem ok_find_flaw {P:Program} {w:World} {K:PySem.W.Frag} {mg:Str→Option Value} {base:Heap} {f:Addr} {fd:FuncData} (F:L2.Fun K "find_flaw" "find_flaw" st_find_flaw f fd) (T:Bt mg) (G_find_three:Cal P w K mg base 1 "find_three" (rk K .k) φ_find_three) (G_find_rest:Cal P w K mg base 1 "find_rest" (rk K .k) φ_find_rest) (G_find_back:Cal P w K mg base 1 "find_back" (rk K .k) φ_find_back) :
  L2.FnOk P w K mg base L2.CX0 2 f fd ["table"] (spR K (rk K .k) φ_find_flaw) :=
 fn_ok (N:=["table","three","still","element"]) (ps:=["table"]) (k:=1) (m:=(rk K .k)) (g:=R_find_flaw) F sc_find_flaw (.inl (rk_non _)) fun cdv A outer s H E hr=>by
  have hu:=hr.units
  have nd:=sc_find_flaw.nd
  have nox:∀ (e:Value) (s:Shared),False→False:=fun _ _ h=>h
  exact (pss_more (ps_sets nd 1 (pd_call G_find_three (hr.mono (by decide)) (pa_one (pd_var 0) pa_no))) (pss_more (ps_iff (pt_noN (pd_var 1)) (pss_last (ps_rete (pd_var 1))) ps_nil) (pss_more (ps_sets nd 2 (pd_call G_find_rest (hr.mono (by decide)) (pa_one (pd_var 0) pa_no))) (pss_more (ps_iff (pt_isN (pd_var 2)) (pss_last (ps_rete (pd_tup (pa_one (pd_str (m:=.k)) pa_no)))) ps_nil) (pss_more (ps_fore (pi_rng T (pd_len (m:=.k) T (pd_var 0))) (pg_n nd 3) (pss_last (ps_iff (pt_isN (pd_call G_find_back (hr.mono (by decide)) (pa_one (pd_var 0) (pa_one (pd_var 2) (pa_one (pd_var 3) pa_no))))) (pss_last (ps_rete (pd_tup (pa_one (pd_str (m:=.k)) (pa_one (pd_var 3) pa_no))))) ps_nil))) (pss_last (ps_rete (pd_non (m:=.k)))))))))
abbrev st_flaw:Stmt:=top 8
theorem sc_flaw:L2.FnScope ["table"] ["table"] (L2.defScope st_flaw):=⟨rfl,rfl,rfl,by decide +kernel,rfl,by decide +kernel,by decide +kernel⟩
theorem ok_flaw {P:Program} {w:World} {K:PySem.W.Frag} {mg:Str→Option Value} {base:Heap} {f:Addr} {fd:FuncData} (F:L2.Fun K "flaw" "flaw" st_flaw f fd) (T:Bt mg) (G_ask_table:Cal P w K mg base 2 "ask_table" (rk K .k) φ_ask_table) (G_find_flaw:Cal P w K mg base 2 "find_flaw" (rk K .k) φ_find_flaw) :
  L2.FnOk P w K mg base L2.CX0 3 f fd ["table"] (spR K (rk K .k) φ_flaw) :=
 fn_ok (N:=["table"]) (ps:=["table"]) (k:=2) (m:=(rk K .k)) (g:=R_flaw) F sc_flaw (.inl (rk_non _)) fun cdv A outer s H E hr=>by
  have hu:=hr.units
  have nd:=sc_flaw.nd
  have nox:∀ (e:Value) (s:Shared),False→False:=fun _ _ h=>h
  exact (pss_more (ps_do (pd_call G_ask_table (hr.mono (by decide)) (pa_one (pd_var 0) pa_no))) (pss_last (ps_rete (pd_call G_find_flaw (hr.mono (by decide)) (pa_one (pd_var 0) pa_no)))))
abbrev st_ask_folk:Stmt:=top 11
theorem sc_ask_folk:L2.FnScope ["table"] ["table"] (L2.defScope st_ask_folk):=⟨rfl,rfl,rfl,by decide +kernel,rfl,by decide +kernel,by decide +kernel⟩
theorem ok_ask_folk {P:Program} {w:World} {K:PySem.W.Frag} {mg:Str→Option Value} {base:Heap} {f:Addr} {fd:FuncData} (F:L2.Fun K "ask_folk" "ask_folk" st_ask_folk f fd) (T:Bt mg) (G_ask_table:Cal P w K mg base 2 "ask_table" (rk K .k) φ_ask_table) (G_find_flaw:Cal P w K mg base 2 "find_flaw" (rk K .k) φ_find_flaw) :
  L2.FnOk P w K mg base L2.CX0 3 f fd ["table"] (spR K (rk K .k) φ_ask_folk) :=
 fn_ok (N:=["table"]) (ps:=["table"]) (k:=2) (m:=(rk K .k)) (g:=R_ask_folk) F sc_ask_folk (.inl (rk_non _)) fun cdv A outer s H E hr=>by
  have hu:=hr.units
  have nd:=sc_ask_folk.nd
  have nox:∀ (e:Value) (s:Shared),False→False:=fun _ _ h=>h
  exact (pss_more (ps_do (pd_call G_ask_table (hr.mono (by decide)) (pa_one (pd_var 0) pa_no))) (pss_last (ps_iff (pt_noN (pd_call G_find_flaw (hr.mono (by decide)) (pa_one (pd_var 0) pa_no))) (pss_last (ps_nev)) ps_nil)))
abbrev st_rest:Stmt:=top 9
theorem sc_rest:L2.FnScope ["table"] ["table"] (L2.defScope st_rest):=⟨rfl,rfl,rfl,by decide +kernel,rfl,by decide +kernel,by decide +kernel⟩
theorem ok_rest {P:Program} {w:World} {K:PySem.W.Frag} {mg:Str→Option Value} {base:Heap} {f:Addr} {fd:FuncData} (F:L2.Fun K "rest" "rest" st_rest f fd) (T:Bt mg) (G_ask_folk:Cal P w K mg base 3 "ask_folk" (rk K .k) φ_ask_folk) (G_find_rest:Cal P w K mg base 1 "find_rest" (rk K .k) φ_find_rest) :
  L2.FnOk P w K mg base L2.CX0 4 f fd ["table"] (spR K (rk K .k) φ_rest) :=
 fn_ok (N:=["table"]) (ps:=["table"]) (k:=3) (m:=(rk K .k)) (g:=R_rest) F sc_rest (.inl (rk_non _)) fun cdv A outer s H E hr=>by
  have hu:=hr.units
  have nd:=sc_rest.nd
  have nox:∀ (e:Value) (s:Shared),False→False:=fun _ _ h=>h
  exact (pss_more (ps_do (pd_call G_ask_folk (hr.mono (by decide)) (pa_one (pd_var 0) pa_no))) (pss_last (ps_rete (pd_call G_find_rest (hr.mono (by decide)) (pa_one (pd_var 0) pa_no)))))
abbrev st_with_all_made:Stmt:=top 24
theorem sc_with_all_made:L2.FnScope ["table","inside","made","a","b"] ["table","inside"] (L2.defScope st_with_all_made):=⟨rfl,rfl,rfl,by decide +kernel,rfl,by decide +kernel,by decide +kernel⟩
theorem ok_with_all_made {P:Program} {w:World} {K:PySem.W.Frag} {mg:Str→Option Value} {base:Heap} {f:Addr} {fd:FuncData} (F:L2.Fun K "with_all_made" "with_all_made" st_with_all_made f fd) (T:Bt mg) :
  L2.FnOk P w K mg base L2.CX0 1 f fd ["table","inside"] (spR K rN φ_with_all_made) :=
 fn_ok (N:=["table","inside","made","a","b"]) (ps:=["table","inside"]) (k:=0) (m:=rN) (g:=R_with_all_made) F sc_with_all_made (.inl rN_non) fun cdv A outer s H E hr=>by
  have hu:=hr.units
  have nd:=sc_with_all_made.nd
  have nox:∀ (e:Value) (s:Shared),False→False:=fun _ _ h=>h
  exact (pss_more (ps_own nd 2 (po_list T (pd_var 1))) (pss_more (ps_fore (pi_of (pd_var 1)) (pg_n nd 3) (pss_last (ps_ext 2 (po_comp nox nd 4 (pi_of (pd_var 1)) (fun _ _ _ _ _ _=>(pd_ix (pd_ix (pd_var 0) (pd_var 3)) (pd_var 4))))))) (pss_last (ps_retn (PDw.n (pw_sortset T (pd_varR 2)))))))
abbrev st_least_part:Stmt:=top 23
theorem sc_least_part:L2.FnScope ["table","some","inside","wider"] ["table","some"] (L2.defScope st_least_part):=⟨rfl,rfl,rfl,by decide +kernel,rfl,by decide +kernel,by decide +kernel⟩
theorem ok_least_part {P:Program} {w:World} {K:PySem.W.Frag} {mg:Str→Option Value} {base:Heap} {f:Addr} {fd:FuncData} (F:L2.Fun K "least_part" "least_part" st_least_part f fd) (T:Bt mg) (G_with_all_made:Cal P w K mg base 1 "with_all_made" rN φ_with_all_made) (G_find_rest:Cal P w K mg base 1 "find_rest" (rk K .k) φ_find_rest) :
  L2.FnOk P w K mg base L2.CX0 2 f fd ["table","some"] (spR K rN φ_least_part) :=
 fn_ok (N:=["table","some","inside","wider"]) (ps:=["table","some"]) (k:=1) (m:=rN) (g:=R_least_part) F sc_least_part (.inl rN_non) fun cdv A outer s H E hr=>by
  have hu:=hr.units
  have nd:=sc_least_part.nd
  have nox:∀ (e:Value) (s:Shared),False→False:=fun _ _ h=>h
  exact (pss_more (ps_setN nd 2 (PDw.n (pw_sortset T (pd_add (pd_var 1) (pd_lst (pa_one (pd_call G_find_rest (hr.mono (by decide)) (pa_one (pd_var 0) pa_no)) pa_no)))))) (pss_more (ps_setN nd 3 (PDw.n (pw_call G_with_all_made (hr.mono (by decide)) (pa_one (pd_var 0) (pa_one (pd_var 2) pa_no))))) (pss_more (ps_whl 1000 (pt_ne hu (pd_var 3) (pd_var 2)) (pss_more (ps_setN nd 2 (pn_var 3)) (pss_last (ps_setN nd 3 (PDw.n (pw_call G_with_all_made (hr.mono (by decide)) (pa_one (pd_var 0) (pa_one (pd_var 2) pa_no)))))))) (pss_last (ps_retn (pn_var 2))))))
abbrev st_fewest_first:Stmt:=top 25
theorem sc_fewest_first:L2.FnScope ["part"] ["part"] (L2.defScope st_fewest_first):=⟨rfl,rfl,rfl,by decide +kernel,rfl,by decide +kernel,by decide +kernel⟩
theorem ok_fewest_first {P:Program} {w:World} {K:PySem.W.Frag} {mg:Str→Option Value} {base:Heap} {f:Addr} {fd:FuncData} (F:L2.Fun K "fewest_first" "fewest_first" st_fewest_first f fd) (T:Bt mg) :
  L2.FnOk P w K mg base L2.CX0 1 f fd ["part"] (spR K (rk K .k) φ_fewest_first) :=
 fn_ok (N:=["part"]) (ps:=["part"]) (k:=0) (m:=(rk K .k)) (g:=R_fewest_first) F sc_fewest_first (.inl (rk_non _)) fun cdv A outer s H E hr=>by
  have hu:=hr.units
  have nd:=sc_fewest_first.nd
  have nox:∀ (e:Value) (s:Shared),False→False:=fun _ _ h=>h
  exact (pss_last (ps_rete (pd_tup (pa_one (pd_len (m:=.k) T (pd_var 0)) (pa_one (pd_var 0) pa_no)))))
abbrev st_parts:Stmt:=top 18
theorem sc_parts:L2.FnScope ["table","found","element","part","wider"] ["table"] (L2.defScope st_parts):=⟨rfl,rfl,rfl,by decide +kernel,rfl,by decide +kernel,by decide +kernel⟩
theorem ok_parts {P:Program} {w:World} {K:PySem.W.Frag} {mg:Str→Option Value} {base:Heap} {f:Addr} {fd:FuncData} (F:L2.Fun K "parts" "parts" st_parts f fd) (T:Bt mg) (G_ask_folk:Cal P w K mg base 3 "ask_folk" (rk K .k) φ_ask_folk) (G_least_part:Cal P w K mg base 2 "least_part" rN φ_least_part) (G_fewest_first:Cal P w K mg base 1 "fewest_first" (rk K .k) φ_fewest_first) :
  L2.FnOk P w K mg base L2.CX0 4 f fd ["table"] (spR K rN φ_parts) :=
 fn_ok (N:=["table","found","element","part","wider"]) (ps:=["table"]) (k:=3) (m:=rN) (g:=R_parts) F sc_parts (.inl rN_non) fun cdv A outer s H E hr=>by
  have hu:=hr.units
  have nd:=sc_parts.nd
  have nox:∀ (e:Value) (s:Shared),False→False:=fun _ _ h=>h
  exact (pss_more (ps_do (pd_call G_ask_folk (hr.mono (by decide)) (pa_one (pd_var 0) pa_no))) (pss_more (ps_new nd 1 (pl_one (PDw.n (pw_call G_least_part (hr.mono (by decide)) (pa_one (pd_var 0) (pa_one (pd_lst (m:=.k) pa_no) pa_no)))))) (pss_more (ps_fore (pi_rng T (pd_len (m:=.k) T (pd_var 0))) (pg_n nd 2) (pss_last (ps_fore (pi_of (pd_listO 1 T)) (pg_n nd 3) (pss_more (ps_setN nd 4 (PDw.n (pw_call G_least_part (hr.mono (by decide)) (pa_one (pd_var 0) (pa_one (pd_add (pd_var 3) (pd_lst (pa_one (pd_var 2) pa_no))) pa_no))))) (pss_last (ps_iff (pt_ni hu (pd_var 4) (pd_varR 1)) (pss_last (ps_appN 1 (pn_var 4))) ps_nil)))))) (pss_last (ps_retn (pn_sortby 1 G_fewest_first (hr.mono (by decide)) T hu))))))
abbrev st_ask_part:Stmt:=top 22
theorem sc_ask_part:L2.FnScope ["table","part","number"] ["table","part"] (L2.defScope st_ask_part):=⟨rfl,rfl,rfl,by decide +kernel,rfl,by decide +kernel,by decide +kernel⟩
theorem ok_ask_part {P:Program} {w:World} {K:PySem.W.Frag} {mg:Str→Option Value} {base:Heap} {f:Addr} {fd:FuncData} (F:L2.Fun K "ask_part" "ask_part" st_ask_part f fd) (T:Bt mg) (G_least_part:Cal P w K mg base 2 "least_part" rN φ_least_part) (G_is_element:Cal P w K mg base 1 "is_element" (rk K .k) φ_is_element) :
  L2.FnOk P w K mg base L2.CX0 3 f fd ["table","part"] (spR K (rk K .k) φ_ask_part) :=
 fn_ok (N:=["table","part","number"]) (ps:=["table","part"]) (k:=2) (m:=(rk K .k)) (g:=R_ask_part) F sc_ask_part (.inl (rk_non _)) fun cdv A outer s H E hr=>by
  have hu:=hr.units
  have nd:=sc_ask_part.nd
  have nox:∀ (e:Value) (s:Shared),False→False:=fun _ _ h=>h
  exact (pss_more (ps_iff (pt_not (pt_of (pd_all (m:=.k) T (pd_comp nox nd 2 (pi_of (pd_var 1)) (fun _ _ _ _ _ _=>(pd_call G_is_element (hr.mono (by decide)) (pa_one (pd_var 0) (pa_one (pd_var 2) pa_no)))))))) (pss_last (ps_nev)) ps_nil) (pss_last (ps_iff (pt_ne hu (PDn.d (PDw.n (pw_call G_least_part (hr.mono (by decide)) (pa_one (pd_var 0) (pa_one (pd_var 1) pa_no))))) (pd_var 1)) (pss_last (ps_nev)) ps_nil)))
abbrev st_share_ahead:Stmt:=top 26
theorem sc_share_ahead:L2.FnScope ["table","part","element","member"] ["table","part","element"] (L2.defScope st_share_ahead):=⟨rfl,rfl,rfl,by decide +kernel,rfl,by decide +kernel,by decide +kernel⟩
theorem ok_share_ahead {P:Program} {w:World} {K:PySem.W.Frag} {mg:Str→Option Value} {base:Heap} {f:Addr} {fd:FuncData} (F:L2.Fun K "share_ahead" "share_ahead" st_share_ahead f fd) (T:Bt mg) :
  L2.FnOk P w K mg base L2.CX0 1 f fd ["table","part","element"] (spR K rN φ_share_ahead) :=
 fn_ok (N:=["table","part","element","member"]) (ps:=["table","part","element"]) (k:=0) (m:=rN) (g:=R_share_ahead) F sc_share_ahead (.inl rN_non) fun cdv A outer s H E hr=>by
  have hu:=hr.units
  have nd:=sc_share_ahead.nd
  have nox:∀ (e:Value) (s:Shared),False→False:=fun _ _ h=>h
  exact (pss_last (ps_retn (PDw.n (PDo.fl (po_sort T hu (pd_comp nox nd 3 (pi_of (pd_var 1)) (fun _ _ _ _ _ _=>(pd_ix (pd_ix (pd_var 0) (pd_var 2)) (pd_var 3)))))))))
abbrev st_all_shares:Stmt:=top 28
theorem sc_all_shares:L2.FnScope ["table","part","found","element","share"] ["table","part"] (L2.defScope st_all_shares):=⟨rfl,rfl,rfl,by decide +kernel,rfl,by decide +kernel,by decide +kernel⟩
theorem ok_all_shares {P:Program} {w:World} {K:PySem.W.Frag} {mg:Str→Option Value} {base:Heap} {f:Addr} {fd:FuncData} (F:L2.Fun K "all_shares" "all_shares" st_all_shares f fd) (T:Bt mg) (G_share_ahead:Cal P w K mg base 1 "share_ahead" rN φ_share_ahead) :
  L2.FnOk P w K mg base L2.CX0 2 f fd ["table","part"] (spR K rN φ_all_shares) :=
 fn_ok (N:=["table","part","found","element","share"]) (ps:=["table","part"]) (k:=1) (m:=rN) (g:=R_all_shares) F sc_all_shares (.inl rN_non) fun cdv A outer s H E hr=>by
  have hu:=hr.units
  have nd:=sc_all_shares.nd
  have nox:∀ (e:Value) (s:Shared),False→False:=fun _ _ h=>h
  exact (pss_more (ps_new nd 2 pl_nil) (pss_more (ps_fore (pi_rng T (pd_len (m:=.k) T (pd_var 0))) (pg_n nd 3) (pss_more (ps_setN nd 4 (PDw.n (pw_call G_share_ahead (hr.mono (by decide)) (pa_one (pd_var 0) (pa_one (pd_var 1) (pa_one (pd_var 3) pa_no)))))) (pss_last (ps_iff (pt_eq hu (pd_ix (pd_var 4) (pd_int (m:=.k))) (pd_var 3)) (pss_last (ps_appN 2 (pn_var 4))) ps_nil)))) (pss_ghost 2 (pss_last (ps_retn (pn_var 2))))))
abbrev st_shares:Stmt:=top 19
theorem sc_shares:L2.FnScope ["table","part"] ["table","part"] (L2.defScope st_shares):=⟨rfl,rfl,rfl,by decide +kernel,rfl,by decide +kernel,by decide +kernel⟩
theorem ok_shares {P:Program} {w:World} {K:PySem.W.Frag} {mg:Str→Option Value} {base:Heap} {f:Addr} {fd:FuncData} (F:L2.Fun K "shares" "shares" st_shares f fd) (T:Bt mg) (G_ask_folk:Cal P w K mg base 3 "ask_folk" (rk K .k) φ_ask_folk) (G_ask_part:Cal P w K mg base 3 "ask_part" (rk K .k) φ_ask_part) (G_all_shares:Cal P w K mg base 2 "all_shares" rN φ_all_shares) :
  L2.FnOk P w K mg base L2.CX0 4 f fd ["table","part"] (spR K rN φ_shares) :=
 fn_ok (N:=["table","part"]) (ps:=["table","part"]) (k:=3) (m:=rN) (g:=R_shares) F sc_shares (.inl rN_non) fun cdv A outer s H E hr=>by
  have hu:=hr.units
  have nd:=sc_shares.nd
  have nox:∀ (e:Value) (s:Shared),False→False:=fun _ _ h=>h
  exact (pss_more (ps_do (pd_call G_ask_folk (hr.mono (by decide)) (pa_one (pd_var 0) pa_no))) (pss_more (ps_do (pd_call G_ask_part (hr.mono (by decide)) (pa_one (pd_var 0) (pa_one (pd_var 1) pa_no)))) (pss_last (ps_retn (PDw.n (pw_call G_all_shares (hr.mono (by decide)) (pa_one (pd_var 0) (pa_one (pd_var 1) pa_no))))))))
abbrev st_share_behind:Stmt:=top 27
theorem sc_share_behind:L2.FnScope ["table","part","element","member"] ["table","part","element"] (L2.defScope st_share_behind):=⟨rfl,rfl,rfl,by decide +kernel,rfl,by decide +kernel,by decide +kernel⟩
theorem ok_share_behind {P:Program} {w:World} {K:PySem.W.Frag} {mg:Str→Option Value} {base:Heap} {f:Addr} {fd:FuncData} (F:L2.Fun K "share_behind" "share_behind" st_share_behind f fd) (T:Bt mg) :
  L2.FnOk P w K mg base L2.CX0 1 f fd ["table","part","element"] (spR K rN φ_share_behind) :=
 fn_ok (N:=["table","part","element","member"]) (ps:=["table","part","element"]) (k:=0) (m:=rN) (g:=R_share_behind) F sc_share_behind (.inl rN_non) fun cdv A outer s H E hr=>by
  have hu:=hr.units
  have nd:=sc_share_behind.nd
  have nox:∀ (e:Value) (s:Shared),False→False:=fun _ _ h=>h
  exact (pss_last (ps_retn (PDw.n (PDo.fl (po_sort T hu (pd_comp nox nd 3 (pi_of (pd_var 1)) (fun _ _ _ _ _ _=>(pd_ix (pd_ix (pd_var 0) (pd_var 3)) (pd_var 2)))))))))
abbrev st_same_on_both_sides:Stmt:=top 29
theorem sc_same_on_both_sides:L2.FnScope ["table","part","a"] ["table","part"] (L2.defScope st_same_on_both_sides):=⟨rfl,rfl,rfl,by decide +kernel,rfl,by decide +kernel,by decide +kernel⟩
theorem ok_same_on_both_sides {P:Program} {w:World} {K:PySem.W.Frag} {mg:Str→Option Value} {base:Heap} {f:Addr} {fd:FuncData} (F:L2.Fun K "same_on_both_sides" "same_on_both_sides" st_same_on_both_sides f fd) (T:Bt mg) (G_share_ahead:Cal P w K mg base 1 "share_ahead" rN φ_share_ahead) (G_share_behind:Cal P w K mg base 1 "share_behind" rN φ_share_behind) :
  L2.FnOk P w K mg base L2.CX0 2 f fd ["table","part"] (spR K (rk K .k) φ_same_on_both_sides) :=
 fn_ok (N:=["table","part","a"]) (ps:=["table","part"]) (k:=1) (m:=(rk K .k)) (g:=R_same_on_both_sides) F sc_same_on_both_sides (.inl (rk_non _)) fun cdv A outer s H E hr=>by
  have hu:=hr.units
  have nd:=sc_same_on_both_sides.nd
  have nox:∀ (e:Value) (s:Shared),False→False:=fun _ _ h=>h
  exact (pss_last (ps_rete (pd_all (m:=.k) T (pd_comp nox nd 2 (pi_rng T (pd_len (m:=.k) T (pd_var 0))) (fun _ _ _ _ _ _=>((pv_eq (m:=.k) hu (PDn.d (PDw.n (pw_call G_share_ahead (hr.mono (by decide)) (pa_one (pd_var 0) (pa_one (pd_var 1) (pa_one (pd_var 2) pa_no)))))) (PDn.d (PDw.n (pw_call G_share_behind (hr.mono (by decide)) (pa_one (pd_var 0) (pa_one (pd_var 1) (pa_one (pd_var 2) pa_no)))))))))))))
abbrev st_is_loose:Stmt:=top 20
theorem sc_is_loose:L2.FnScope ["table","part"] ["table","part"] (L2.defScope st_is_loose):=⟨rfl,rfl,rfl,by decide +kernel,rfl,by decide +kernel,by decide +kernel⟩
theorem ok_is_loose {P:Program} {w:World} {K:PySem.W.Frag} {mg:Str→Option Value} {base:Heap} {f:Addr} {fd:FuncData} (F:L2.Fun K "is_loose" "is_loose" st_is_loose f fd) (T:Bt mg) (G_ask_folk:Cal P w K mg base 3 "ask_folk" (rk K .k) φ_ask_folk) (G_ask_part:Cal P w K mg base 3 "ask_part" (rk K .k) φ_ask_part) (G_same_on_both_sides:Cal P w K mg base 2 "same_on_both_sides" (rk K .k) φ_same_on_both_sides) :
  L2.FnOk P w K mg base L2.CX0 4 f fd ["table","part"] (spR K (rk K .k) φ_is_loose) :=
 fn_ok (N:=["table","part"]) (ps:=["table","part"]) (k:=3) (m:=(rk K .k)) (g:=R_is_loose) F sc_is_loose (.inl (rk_non _)) fun cdv A outer s H E hr=>by
  have hu:=hr.units
  have nd:=sc_is_loose.nd
  have nox:∀ (e:Value) (s:Shared),False→False:=fun _ _ h=>h
  exact (pss_more (ps_do (pd_call G_ask_folk (hr.mono (by decide)) (pa_one (pd_var 0) pa_no))) (pss_more (ps_do (pd_call G_ask_part (hr.mono (by decide)) (pa_one (pd_var 0) (pa_one (pd_var 1) pa_no)))) (pss_last (ps_rete (pd_call G_same_on_both_sides (hr.mono (by decide)) (pa_one (pd_var 0) (pa_one (pd_var 1) pa_no)))))))
abbrev st_table_of_shares:Stmt:=top 30
theorem sc_table_of_shares:L2.FnScope ["table","found","place","number","share","element","heads","rows","head","other"] ["table","found"] (L2.defScope st_table_of_shares):=⟨rfl,rfl,rfl,by decide +kernel,rfl,by decide +kernel,by decide +kernel⟩
theorem ok_table_of_shares {P:Program} {w:World} {K:PySem.W.Frag} {mg:Str→Option Value} {base:Heap} {f:Addr} {fd:FuncData} (F:L2.Fun K "table_of_shares" "table_of_shares" st_table_of_shares f fd) (T:Bt mg) :
  L2.FnOk P w K mg base L2.CX0 1 f fd ["table","found"] (spR K (rk K .k) φ_table_of_shares) :=
 fn_ok (N:=["table","found","place","number","share","element","heads","rows","head","other"]) (ps:=["table","found"]) (k:=0) (m:=(rk K .k)) (g:=R_table_of_shares) F sc_table_of_shares (.inl (rk_non _)) fun cdv A outer s H E hr=>by
  have hu:=hr.units
  have nd:=sc_table_of_shares.nd
  have nox:∀ (e:Value) (s:Shared),False→False:=fun _ _ h=>h
  exact (pss_more (ps_dnew nd 2) (pss_more (ps_fore (pi_enum T (pd_var 1)) (pg_2 nd 3 4) (pss_last (ps_fore (pi_of (pd_var 4)) (pg_n nd 5) (pss_last (ps_dput hu 2 (pd_var 5) (pd_var 3)))))) (pss_more (ps_setsC nox nd 6 4 (pi_of (pd_var 1)) (fun _ _ _ _ _ _=>(pd_ix (pd_var 4) (pd_int (m:=.k))))) (pss_more (ps_own nd 7 (po_lst (m:=.k) pa_no)) (pss_more (ps_fore (pi_of (pd_var 6)) (pg_n nd 8) (pss_ghost 2 (pss_last (ps_app 7 (pd_comp nox nd 9 (pi_of (pd_var 6)) (fun _ _ _ _ _ _=>(pd_getD (m:=.k) hu (pd_var 2) (pd_ix (pd_ix (pd_var 0) (pd_var 8)) (pd_var 9))))))))) (pss_ghost 7 (pss_last (ps_rete (pd_var 7)))))))))
abbrev st_taken_out:Stmt:=top 21
theorem sc_taken_out:L2.FnScope ["table","part","found"] ["table","part"] (L2.defScope st_taken_out):=⟨rfl,rfl,rfl,by decide +kernel,rfl,by decide +kernel,by decide +kernel⟩
theorem ok_taken_out {P:Program} {w:World} {K:PySem.W.Frag} {mg:Str→Option Value} {base:Heap} {f:Addr} {fd:FuncData} (F:L2.Fun K "taken_out" "taken_out" st_taken_out f fd) (T:Bt mg) (G_ask_folk:Cal P w K mg base 3 "ask_folk" (rk K .k) φ_ask_folk) (G_ask_part:Cal P w K mg base 3 "ask_part" (rk K .k) φ_ask_part) (G_all_shares:Cal P w K mg base 2 "all_shares" rN φ_all_shares) (G_table_of_shares:Cal P w K mg base 1 "table_of_shares" (rk K .k) φ_table_of_shares) (G_same_on_both_sides:Cal P w K mg base 2 "same_on_both_sides" (rk K .k) φ_same_on_both_sides) :
  L2.FnOk P w K mg base L2.CX0 4 f fd ["table","part"] (spR K (rk K .k) φ_taken_out) :=
 fn_ok (N:=["table","part","found"]) (ps:=["table","part"]) (k:=3) (m:=(rk K .k)) (g:=R_taken_out) F sc_taken_out (.inl (rk_non _)) fun cdv A outer s H E hr=>by
  have hu:=hr.units
  have nd:=sc_taken_out.nd
  have nox:∀ (e:Value) (s:Shared),False→False:=fun _ _ h=>h
  exact (pss_more (ps_do (pd_call G_ask_folk (hr.mono (by decide)) (pa_one (pd_var 0) pa_no))) (pss_more (ps_do (pd_call G_ask_part (hr.mono (by decide)) (pa_one (pd_var 0) (pa_one (pd_var 1) pa_no)))) (pss_more (ps_iff (pt_not (pt_of (pd_call G_same_on_both_sides (hr.mono (by decide)) (pa_one (pd_var 0) (pa_one (pd_var 1) pa_no))))) (pss_last (ps_nev)) ps_nil) (pss_more (ps_sets nd 2 (PDn.d (PDw.n (pw_call G_all_shares (hr.mono (by decide)) (pa_one (pd_var 0) (pa_one (pd_var 1) pa_no)))))) (pss_last (ps_rete (pd_call G_table_of_shares (hr.mono (by decide)) (pa_one (pd_var 0) (pa_one (pd_var 2) pa_no)))))))))
abbrev st_makes_the_same_behind:Stmt:=top 33
theorem sc_makes_the_same_behind:L2.FnScope ["table","element","a"] ["table","element"] (L2.defScope st_makes_the_same_behind):=⟨rfl,rfl,rfl,by decide +kernel,rfl,by decide +kernel,by decide +kernel⟩
theorem ok_makes_the_same_behind {P:Program} {w:World} {K:PySem.W.Frag} {mg:Str→Option Value} {base:Heap} {f:Addr} {fd:FuncData} (F:L2.Fun K "makes_the_same_behind" "makes_the_same_behind" st_makes_the_same_behind f fd) (T:Bt mg) :
  L2.FnOk P w K mg base L2.CX0 1 f fd ["table","element"] (spR K (rk K .k) φ_makes_the_same_behind) :=
 fn_ok (N:=["table","element","a"]) (ps:=["table","element"]) (k:=0) (m:=(rk K .k)) (g:=R_makes_the_same_behind) F sc_makes_the_same_behind (.inl (rk_non _)) fun cdv A outer s H E hr=>by
  have hu:=hr.units
  have nd:=sc_makes_the_same_behind.nd
  have nox:∀ (e:Value) (s:Shared),False→False:=fun _ _ h=>h
  exact (pss_last (ps_rete (pd_all (m:=.k) T (pd_comp nox nd 2 (pi_rng T (pd_len (m:=.k) T (pd_var 0))) (fun _ _ _ _ _ _=>((pv_eq (m:=.k) hu (pd_ix (pd_ix (pd_var 0) (pd_var 1)) (pd_var 2)) (pd_ix (pd_ix (pd_var 0) (pd_var 2)) (pd_var 1)))))))))
abbrev st_middle:Stmt:=top 32
theorem sc_middle:L2.FnScope ["table","element"] ["table"] (L2.defScope st_middle):=⟨rfl,rfl,rfl,by decide +kernel,rfl,by decide +kernel,by decide +kernel⟩
theorem ok_middle {P:Program} {w:World} {K:PySem.W.Frag} {mg:Str→Option Value} {base:Heap} {f:Addr} {fd:FuncData} (F:L2.Fun K "middle" "middle" st_middle f fd) (T:Bt mg) (G_ask_folk:Cal P w K mg base 3 "ask_folk" (rk K .k) φ_ask_folk) (G_makes_the_same_behind:Cal P w K mg base 1 "makes_the_same_behind" (rk K .k) φ_makes_the_same_behind) :
  L2.FnOk P w K mg base L2.CX0 4 f fd ["table"] (spR K rN φ_middle) :=
 fn_ok (N:=["table","element"]) (ps:=["table"]) (k:=3) (m:=rN) (g:=R_middle) F sc_middle (.inl rN_non) fun cdv A outer s H E hr=>by
  have hu:=hr.units
  have nd:=sc_middle.nd
  have nox:∀ (e:Value) (s:Shared),False→False:=fun _ _ h=>h
  exact (pss_more (ps_do (pd_call G_ask_folk (hr.mono (by decide)) (pa_one (pd_var 0) pa_no))) (pss_last (ps_retn (PDw.n (PDo.fl (po_comp1 nox nd 1 (pi_rng T (pd_len (m:=.k) T (pd_var 0))) (fun _ _ _ _ _ _=>(pt_of (pd_call G_makes_the_same_behind (hr.mono (by decide)) (pa_one (pd_var 0) (pa_one (pd_var 1) pa_no))))) (fun _ _ _ _ _ _=>(pd_var 1))))))))
abbrev st_least_without_name:Stmt:=top 37
theorem sc_least_without_name:L2.FnScope ["names","element"] ["names"] (L2.defScope st_least_without_name):=⟨rfl,rfl,rfl,by decide +kernel,rfl,by decide +kernel,by decide +kernel⟩
theorem ok_least_without_name {P:Program} {w:World} {K:PySem.W.Frag} {mg:Str→Option Value} {base:Heap} {f:Addr} {fd:FuncData} (F:L2.Fun K "least_without_name" "least_without_name" st_least_without_name f fd) (T:Bt mg) :
  L2.FnOk P w K mg base L2.CX0 1 f fd ["names"] (spR K (rk K .k) φ_least_without_name) :=
 fn_ok (N:=["names","element"]) (ps:=["names"]) (k:=0) (m:=(rk K .k)) (g:=R_least_without_name) F sc_least_without_name (.inl (rk_non _)) fun cdv A outer s H E hr=>by
  have hu:=hr.units
  have nd:=sc_least_without_name.nd
  have nox:∀ (e:Value) (s:Shared),False→False:=fun _ _ h=>h
  exact (pss_more (ps_sets nd 1 (pd_int (m:=.k))) (pss_more (ps_whl 1000 (pt_inD hu (pd_var 1) (pd_var 0)) (pss_last (ps_sets nd 1 (pd_add (pd_var 1) (pd_int (m:=.k)))))) (pss_last (ps_rete (pd_var 1)))))
abbrev st_with_all_named:Stmt:=top 39
theorem sc_with_all_named:L2.FnScope ["one","other","names","wider","a","b","made","name","element"] ["one","other","names"] (L2.defScope st_with_all_named):=⟨rfl,rfl,rfl,by decide +kernel,rfl,by decide +kernel,by decide +kernel⟩
theorem ok_with_all_named {P:Program} {w:World} {K:PySem.W.Frag} {mg:Str→Option Value} {base:Heap} {f:Addr} {fd:FuncData} (F:L2.Fun K "with_all_named" "with_all_named" st_with_all_named f fd) (T:Bt mg) :
  L2.FnOk P w K mg base L2.CX0 1 f fd ["one","other","names"] (spR K (rk K .k) φ_with_all_named) :=
 fn_ok (N:=["one","other","names","wider","a","b","made","name","element"]) (ps:=["one","other","names"]) (k:=0) (m:=(rk K .k)) (g:=R_with_all_named) F sc_with_all_named (.inl (rk_non _)) fun cdv A outer s H E hr=>by
  have hu:=hr.units
  have nd:=sc_with_all_named.nd
  have nox:∀ (e:Value) (s:Shared),False→False:=fun _ _ h=>h
  exact (pss_more (ps_dict nd 3 T (pd_var 2)) (pss_more (ps_fore (pi_keys (pd_var 2)) (pg_n nd 4) (pss_last (ps_fore (pi_keys (pd_var 2)) (pg_n nd 5) (pss_more (ps_sets nd 6 (pd_ix (pd_ix (pd_var 0) (pd_var 4)) (pd_var 5))) (pss_more (ps_sets nd 7 (pd_ix (pd_ix (pd_var 1) (pd_getD (m:=.k) hu (pd_var 2) (pd_var 4))) (pd_getD (m:=.k) hu (pd_var 2) (pd_var 5)))) (pss_more (ps_iff (pt_ne hu (pd_get2 (m:=.k) hu 3 (pd_var 6) (pd_var 7)) (pd_var 7)) (pss_last (ps_rete (pd_non (m:=.k)))) ps_nil) (pss_last (ps_dput hu 3 (pd_var 6) (pd_var 7))))))))) (pss_ghost 3 (pss_more (ps_iff (pt_lt (pd_lenset (m:=.k) T (pd_comp nox nd 8 (pi_keys (pd_var 3)) (fun _ _ _ _ _ _=>(pd_getD (m:=.k) hu (pd_var 3) (pd_var 8))))) (pd_lenD (m:=.k) T (pd_var 3))) (pss_last (ps_rete (pd_non (m:=.k)))) ps_nil) (pss_ghost 3 (pss_last (ps_rete (pd_var 3))))))))
abbrev st_with_name:Stmt:=top 38
theorem sc_with_name:L2.FnScope ["one","other","names","element","name","wider","made"] ["one","other","names","element","name"] (L2.defScope st_with_name):=⟨rfl,rfl,rfl,by decide +kernel,rfl,by decide +kernel,by decide +kernel⟩
theorem ok_with_name {P:Program} {w:World} {K:PySem.W.Frag} {mg:Str→Option Value} {base:Heap} {f:Addr} {fd:FuncData} (F:L2.Fun K "with_name" "with_name" st_with_name f fd) (T:Bt mg) (G_with_all_named:Cal P w K mg base 1 "with_all_named" (rk K .k) φ_with_all_named) :
  L2.FnOk P w K mg base L2.CX0 2 f fd ["one","other","names","element","name"] (spR K (rk K .k) φ_with_name) :=
 fn_ok (N:=["one","other","names","element","name","wider","made"]) (ps:=["one","other","names","element","name"]) (k:=1) (m:=(rk K .k)) (g:=R_with_name) F sc_with_name (.inl (rk_non _)) fun cdv A outer s H E hr=>by
  have hu:=hr.units
  have nd:=sc_with_name.nd
  have nox:∀ (e:Value) (s:Shared),False→False:=fun _ _ h=>h
  exact (pss_more (ps_dict nd 5 T (pd_var 2)) (pss_more (ps_dput hu 5 (pd_var 3) (pd_var 4)) (pss_ghost 5 (pss_more (ps_sets nd 6 (pd_call G_with_all_named (hr.mono (by decide)) (pa_one (pd_var 0) (pa_one (pd_var 1) (pa_one (pd_var 5) pa_no))))) (pss_more (ps_whl 1000 (pw_t (pt_and (pt_noN (pd_var 6)) (pt_oneAnd (pt_gt (pd_lenD (m:=.k) T (pd_var 6)) (pd_lenD (m:=.k) T (pd_var 5)))))) (pss_more (ps_sets nd 5 (pd_var 6)) (pss_ghost 5 (pss_last (ps_sets nd 6 (pd_call G_with_all_named (hr.mono (by decide)) (pa_one (pd_var 0) (pa_one (pd_var 1) (pa_one (pd_var 5) pa_no))))))))) (pss_last (ps_rete (pd_var 6))))))))
abbrev st_find_renaming:Stmt:=top 36
theorem sc_find_renaming:L2.FnScope ["one","other","names","element","name","wider","found"] ["one","other","names"] (L2.defScope st_find_renaming):=⟨rfl,rfl,rfl,by decide +kernel,rfl,by decide +kernel,by decide +kernel⟩
theorem ok_find_renaming {P:Program} {w:World} {K:PySem.W.Frag} {mg:Str→Option Value} {base:Heap} {f:Addr} {fd:FuncData} (F:L2.Fun K "find_renaming" "find_renaming" st_find_renaming f fd) (T:Bt mg) (G_least_without_name:Cal P w K mg base 1 "least_without_name" (rk K .k) φ_least_without_name) (G_with_name:Cal P w K mg base 2 "with_name" (rk K .k) φ_with_name) (n:Nat) (G_find_renaming:Cal P w K mg base (2 + n) "find_renaming" rN (φn_find_renaming n)) :
  L2.FnOk P w K mg base L2.CX0 (2 + n + 1) f fd ["one","other","names"] (spR K rN (φn_find_renaming (n + 1))) :=
 fn_ok (N:=["one","other","names","element","name","wider","found"]) (ps:=["one","other","names"]) (k:=2 + n) (m:=rN) (g:=R_find_renaming (φn_find_renaming n)) F sc_find_renaming (.inl rN_non) fun cdv A outer s H E hr=>by
  have hu:=hr.units
  have nd:=sc_find_renaming.nd
  have nox:∀ (e:Value) (s:Shared),False→False:=fun _ _ h=>h
  exact (pss_more (ps_iff (pt_eq hu (pd_lenD (m:=.k) T (pd_var 2)) (pd_len (m:=.k) T (pd_var 0))) (pss_last (ps_retn (PDw.n (PDo.fl (po_comp nox nd 3 (pi_rng T (pd_len (m:=.k) T (pd_var 0))) (fun _ _ _ _ _ _=>(pd_getD (m:=.k) hu (pd_var 2) (pd_var 3)))))))) ps_nil) (pss_more (ps_sets nd 3 (pd_call G_least_without_name (hr.mono (by omega)) (pa_one (pd_var 2) pa_no))) (pss_more (ps_fore (pi_rng T (pd_len (m:=.k) T (pd_var 1))) (pg_n nd 4) (pss_more (ps_sets nd 5 (pd_call G_with_name (hr.mono (by omega)) (pa_one (pd_var 0) (pa_one (pd_var 1) (pa_one (pd_var 2) (pa_one (pd_var 3) (pa_one (pd_var 4) pa_no))))))) (pss_last (ps_iff (pt_noN (pd_var 5)) (pss_more (ps_setN nd 6 (PDw.n (pw_call G_find_renaming (hr.mono (by omega)) (pa_one (pd_var 0) (pa_one (pd_var 1) (pa_one (pd_var 5) pa_no)))))) (pss_last (ps_iff (pt_noN (pd_var 6)) (pss_last (ps_retn (pn_var 6))) ps_nil))) ps_nil)))) (pss_last (ps_retn pn_non)))))
abbrev st_renaming:Stmt:=top 35
theorem sc_renaming:L2.FnScope ["one","other"] ["one","other"] (L2.defScope st_renaming):=⟨rfl,rfl,rfl,by decide +kernel,rfl,by decide +kernel,by decide +kernel⟩
theorem ok_renaming {P:Program} {w:World} {K:PySem.W.Frag} {mg:Str→Option Value} {base:Heap} {f:Addr} {fd:FuncData} (F:L2.Fun K "renaming" "renaming" st_renaming f fd) (T:Bt mg) (G_ask_folk:Cal P w K mg base 3 "ask_folk" (rk K .k) φ_ask_folk) (G_find_renaming:Cal P w K mg base 15 "find_renaming" rN φ_find_renaming) (G_find_rest:Cal P w K mg base 1 "find_rest" (rk K .k) φ_find_rest) :
  L2.FnOk P w K mg base L2.CX0 16 f fd ["one","other"] (spR K rN φ_renaming) :=
 fn_ok (N:=["one","other"]) (ps:=["one","other"]) (k:=15) (m:=rN) (g:=R_renaming) F sc_renaming (.inl rN_non) fun cdv A outer s H E hr=>by
  have hu:=hr.units
  have nd:=sc_renaming.nd
  have nox:∀ (e:Value) (s:Shared),False→False:=fun _ _ h=>h
  exact (pss_more (ps_do (pd_call G_ask_folk (hr.mono (by decide)) (pa_one (pd_var 0) pa_no))) (pss_more (ps_do (pd_call G_ask_folk (hr.mono (by decide)) (pa_one (pd_var 1) pa_no))) (pss_more (ps_iff (pt_ne hu (pd_len (m:=.k) T (pd_var 0)) (pd_len (m:=.k) T (pd_var 1))) (pss_last (ps_retn pn_non)) ps_nil) (pss_last (ps_retn (PDw.n (pw_call G_find_renaming (hr.mono (by decide)) (pa_one (pd_var 0) (pa_one (pd_var 1) (pa_one (pd_disp (pd_call G_find_rest (hr.mono (by decide)) (pa_one (pd_var 0) pa_no)) (pd_call G_find_rest (hr.mono (by decide)) (pa_one (pd_var 1) pa_no))) pa_no))))))))))
abbrev st_law_cell_at:Stmt:=top 41
theorem sc_law_cell_at:L2.FnScope ["script","k"] ["script","k"] (L2.defScope st_law_cell_at):=⟨rfl,rfl,rfl,by decide +kernel,rfl,by decide +kernel,by decide +kernel⟩
theorem ok_law_cell_at {P:Program} {w:World} {K:PySem.W.Frag} {mg:Str→Option Value} {base:Heap} {f:Addr} {fd:FuncData} (F:L2.Fun K "_law_cell_at" "_law_cell_at" st_law_cell_at f fd) (T:Bt mg) :
  L2.FnOk P w K mg base L2.CX0 1 f fd ["script","k"] (spR K (rk K .k) φ_law_cell_at) :=
 fn_ok (N:=["script","k"]) (ps:=["script","k"]) (k:=0) (m:=(rk K .k)) (g:=R_law_cell_at) F sc_law_cell_at (.inl (rk_non _)) fun cdv A outer s H E hr=>by
  have hu:=hr.units
  have nd:=sc_law_cell_at.nd
  have nox:∀ (e:Value) (s:Shared),False→False:=fun _ _ h=>h
  exact (pss_more (ps_iff (pt_lt (pd_var 1) (pd_len (m:=.k) T (pd_var 0))) (pss_last (ps_rete (pd_ix (pd_var 0) (pd_var 1)))) ps_nil) (pss_last (ps_rete (pd_int (m:=.k)))))
abbrev st_law_draw:Stmt:=top 42
theorem sc_law_draw:L2.FnScope ["cell","k","bound","left","j","stir"] ["cell","k","bound"] (L2.defScope st_law_draw):=⟨rfl,rfl,rfl,by decide +kernel,rfl,by decide +kernel,by decide +kernel⟩
theorem ok_law_draw {P:Program} {w:World} {K:PySem.W.Frag} {mg:Str→Option Value} {base:Heap} {f:Addr} {fd:FuncData} (F:L2.Fun K "_law_draw" "_law_draw" st_law_draw f fd) (T:Bt mg) :
  L2.FnOk P w K mg base L2.CX0 1 f fd ["cell","k","bound"] (spR K (rk K .k) φ_law_draw) :=
 fn_ok (N:=["cell","k","bound","left","j","stir"]) (ps:=["cell","k","bound"]) (k:=0) (m:=(rk K .k)) (g:=R_law_draw) F sc_law_draw (.inl (rk_non _)) fun cdv A outer s H E hr=>by
  have hu:=hr.units
  have nd:=sc_law_draw.nd
  have nox:∀ (e:Value) (s:Shared),False→False:=fun _ _ h=>h
  exact (pss_more (ps_iff (pt_eq hu (pd_iMod (m:=.k) (pd_var 0) (pd_int (m:=.k))) (pd_int (m:=.k))) (pss_more (ps_sets nd 3 (pd_iDiv (m:=.k) (pd_var 0) (pd_int (m:=.k)))) (pss_more (ps_fore (pi_rng T (pd_var 1)) (pg_n nd 4) (pss_last (ps_sets nd 3 (pd_iDiv (m:=.k) (pd_var 3) (pd_var 2))))) (pss_last (ps_rete (pd_iMod (m:=.k) (pd_var 3) (pd_var 2)))))) ps_nil) (pss_more (ps_sets nd 5 (pd_iMod (m:=.k) (pd_iMul (m:=.k) (pd_add (pd_add (pd_iMod (m:=.k) (pd_var 0) (pd_int (m:=.k))) (pd_iMul (m:=.k) (pd_int (m:=.k)) (pd_var 1))) (pd_int (m:=.k))) (pd_int (m:=.k))) (pd_int (m:=.k)))) (pss_more (ps_sets nd 5 (pd_iMod (m:=.k) (pd_iMul (m:=.k) (pd_var 5) (pd_var 5)) (pd_int (m:=.k)))) (pss_more (ps_sets nd 5 (pd_iMod (m:=.k) (pd_iMul (m:=.k) (pd_add (pd_var 5) (pd_iMul (m:=.k) (pd_int (m:=.k)) (pd_add (pd_var 1) (pd_int (m:=.k))))) (pd_int (m:=.k))) (pd_int (m:=.k)))) (pss_last (ps_rete (pd_iMod (m:=.k) (pd_iDiv (m:=.k) (pd_var 5) (pd_int (m:=.k))) (pd_var 2))))))))
abbrev st_law_cycles:Stmt:=top 43
theorem sc_law_cycles:L2.FnScope ["dims","size","dim","table","a","row","b","made","worth"] ["dims"] (L2.defScope st_law_cycles):=⟨rfl,rfl,rfl,by decide +kernel,rfl,by decide +kernel,by decide +kernel⟩
theorem ok_law_cycles {P:Program} {w:World} {K:PySem.W.Frag} {mg:Str→Option Value} {base:Heap} {f:Addr} {fd:FuncData} (F:L2.Fun K "_law_cycles" "_law_cycles" st_law_cycles f fd) (T:Bt mg) :
  L2.FnOk P w K mg base L2.CX0 1 f fd ["dims"] (spR K (rk K .k) φ_law_cycles) :=
 fn_ok (N:=["dims","size","dim","table","a","row","b","made","worth"]) (ps:=["dims"]) (k:=0) (m:=(rk K .k)) (g:=R_law_cycles) F sc_law_cycles (.inl (rk_non _)) fun cdv A outer s H E hr=>by
  have hu:=hr.units
  have nd:=sc_law_cycles.nd
  have nox:∀ (e:Value) (s:Shared),False→False:=fun _ _ h=>h
  exact (pss_more (ps_sets nd 1 (pd_int (m:=.k))) (pss_more (ps_fore (pi_of (pd_var 0)) (pg_n nd 2) (pss_last (ps_sets nd 1 (pd_iMul (m:=.k) (pd_var 1) (pd_var 2))))) (pss_more (ps_own nd 3 (po_lst (m:=.k) pa_no)) (pss_more (ps_fore (pi_rng T (pd_var 1)) (pg_n nd 4) (pss_more (ps_own nd 5 (po_lst (m:=.k) pa_no)) (pss_more (ps_fore (pi_rng T (pd_var 1)) (pg_n nd 6) (pss_more (ps_sets nd 7 (pd_int (m:=.k))) (pss_more (ps_sets nd 8 (pd_int (m:=.k))) (pss_more (ps_fore (pi_of (pd_var 0)) (pg_n nd 2) (pss_more (ps_sets nd 7 (pd_add (pd_var 7) (pd_iMul (m:=.k) (pd_iMod (m:=.k) (pd_add (pd_iDiv (m:=.k) (pd_var 4) (pd_var 8)) (pd_iDiv (m:=.k) (pd_var 6) (pd_var 8))) (pd_var 2)) (pd_var 8)))) (pss_last (ps_sets nd 8 (pd_iMul (m:=.k) (pd_var 8) (pd_var 2)))))) (pss_last (ps_app 5 (pd_var 7))))))) (pss_ghost 5 (pss_last (ps_app 3 (pd_var 5))))))) (pss_ghost 3 (pss_last (ps_rete (pd_var 3))))))))
abbrev st_law_twisted:Stmt:=top 44
theorem sc_law_twisted:L2.FnScope ["many","extra","table","a","row","b","turn","both","made"] ["many","extra"] (L2.defScope st_law_twisted):=⟨rfl,rfl,rfl,by decide +kernel,rfl,by decide +kernel,by decide +kernel⟩
theorem ok_law_twisted {P:Program} {w:World} {K:PySem.W.Frag} {mg:Str→Option Value} {base:Heap} {f:Addr} {fd:FuncData} (F:L2.Fun K "_law_twisted" "_law_twisted" st_law_twisted f fd) (T:Bt mg) :
  L2.FnOk P w K mg base L2.CX0 1 f fd ["many","extra"] (spR K (rk K .k) φ_law_twisted) :=
 fn_ok (N:=["many","extra","table","a","row","b","turn","both","made"]) (ps:=["many","extra"]) (k:=0) (m:=(rk K .k)) (g:=R_law_twisted) F sc_law_twisted (.inl (rk_non _)) fun cdv A outer s H E hr=>by
  have hu:=hr.units
  have nd:=sc_law_twisted.nd
  have nox:∀ (e:Value) (s:Shared),False→False:=fun _ _ h=>h
  exact (pss_more (ps_own nd 2 (po_lst (m:=.k) pa_no)) (pss_more (ps_fore (pi_rng T (pd_iMul (m:=.k) (pd_int (m:=.k)) (pd_var 0))) (pg_n nd 3) (pss_more (ps_own nd 4 (po_lst (m:=.k) pa_no)) (pss_more (ps_fore (pi_rng T (pd_iMul (m:=.k) (pd_int (m:=.k)) (pd_var 0))) (pg_n nd 5) (pss_more (ps_sets nd 6 (pd_ix (pd_lst (pa_one (pd_iMod (m:=.k) (pd_var 5) (pd_var 0)) (pa_one (pd_iSub (m:=.k) (pd_int (m:=.k)) (pd_iMod (m:=.k) (pd_var 5) (pd_var 0))) pa_no))) (pd_iDiv (m:=.k) (pd_var 3) (pd_var 0)))) (pss_more (ps_sets nd 7 (pd_iMul (m:=.k) (pd_iDiv (m:=.k) (pd_var 3) (pd_var 0)) (pd_iDiv (m:=.k) (pd_var 5) (pd_var 0)))) (pss_more (ps_sets nd 8 (pd_iMod (m:=.k) (pd_add (pd_add (pd_iMod (m:=.k) (pd_var 3) (pd_var 0)) (pd_var 6)) (pd_iMul (m:=.k) (pd_var 1) (pd_var 7))) (pd_var 0))) (pss_last (ps_app 4 (pd_add (pd_var 8) (pd_iMul (m:=.k) (pd_var 0) (pd_iMod (m:=.k) (pd_add (pd_iDiv (m:=.k) (pd_var 3) (pd_var 0)) (pd_iDiv (m:=.k) (pd_var 5) (pd_var 0))) (pd_int (m:=.k))))))))))) (pss_ghost 4 (pss_last (ps_app 2 (pd_var 4))))))) (pss_ghost 2 (pss_last (ps_rete (pd_var 2))))))
abbrev st_law_even:Stmt:=top 45
theorem sc_law_even:L2.FnScope ["lines","k","longer","line","x","some","wrong","j","table","one","two"] [] (L2.defScope st_law_even):=⟨rfl,rfl,rfl,by decide +kernel,rfl,by decide +kernel,by decide +kernel⟩
theorem ok_law_even {P:Program} {w:World} {K:PySem.W.Frag} {mg:Str→Option Value} {base:Heap} {f:Addr} {fd:FuncData} (F:L2.Fun K "_law_even" "_law_even" st_law_even f fd) (T:Bt mg) :
  L2.FnOk P w K mg base L2.CX0 1 f fd [] (spR K (rk K .k) φ_law_even) :=
 fn_ok (N:=["lines","k","longer","line","x","some","wrong","j","table","one","two"]) (ps:=[]) (k:=0) (m:=(rk K .k)) (g:=R_law_even) F sc_law_even (.inl (rk_non _)) fun cdv A outer s H E hr=>by
  have hu:=hr.units
  have nd:=sc_law_even.nd
  have nox:∀ (e:Value) (s:Shared),False→False:=fun _ _ h=>h
  exact (pss_more (ps_sets nd 0 (pd_lst (pa_one (pd_lst (m:=.k) pa_no) pa_no))) (pss_more (ps_fore (pi_rng T (pd_int (m:=.k))) (pg_n nd 1) (pss_more (ps_sets nd 2 (pd_lst (m:=.k) pa_no)) (pss_more (ps_fore (pi_of (pd_var 0)) (pg_n nd 3) (pss_last (ps_sets nd 2 (pd_add (pd_var 2) (pd_comp1 nox nd 4 (pi_rng T (pd_int (m:=.k))) (fun _ _ _ _ _ _=>(pt_ni hu (pd_var 4) (pd_var 3))) (fun _ _ _ _ _ _=>(pd_add (pd_var 3) (pd_lst (pa_one (pd_var 4) pa_no))))))))) (pss_last (ps_sets nd 0 (pd_var 2)))))) (pss_more (ps_own nd 5 (po_lst (m:=.k) pa_no)) (pss_more (ps_fore (pi_of (pd_var 0)) (pg_n nd 3) (pss_more (ps_sets nd 6 (pd_int (m:=.k))) (pss_more (ps_fore (pi_rng T (pd_int (m:=.k))) (pg_n nd 7) (pss_last (ps_sets nd 6 (pd_add (pd_var 6) (pd_len (m:=.k) T (pd_comp1 nox nd 1 (pi_rng T (pd_var 7)) (fun _ _ _ _ _ _=>(pt_gt (pd_ix (pd_var 3) (pd_var 1)) (pd_ix (pd_var 3) (pd_var 7)))) (fun _ _ _ _ _ _=>(pd_var 1)))))))) (pss_last (ps_iff (pt_eq hu (pd_iMod (m:=.k) (pd_var 6) (pd_int (m:=.k))) (pd_int (m:=.k))) (pss_last (ps_app 5 (pd_var 3))) ps_nil))))) (pss_more (ps_own nd 8 (po_lst (m:=.k) pa_no)) (pss_ghost 5 (pss_more (ps_fore (pi_of (pd_var 5)) (pg_n nd 9) (pss_ghost 5 (pss_last (ps_app 8 (pd_comp nox nd 10 (pi_of (pd_var 5)) (fun _ _ _ _ _ _=>(pd_index (m:=.k) hu (pd_varR 5) (pd_comp nox nd 4 (pi_of (pd_var 9)) (fun _ _ _ _ _ _=>(pd_ix (pd_var 10) (pd_var 4))))))))))) (pss_ghost 8 (pss_last (ps_rete (pd_var 8)))))))))))
abbrev st_law_base:Stmt:=top 46
theorem sc_law_base:L2.FnScope ["kind","dims","pair"] ["kind"] (L2.defScope st_law_base):=⟨rfl,rfl,rfl,by decide +kernel,rfl,by decide +kernel,by decide +kernel⟩
theorem ok_law_base {P:Program} {w:World} {K:PySem.W.Frag} {mg:Str→Option Value} {base:Heap} {f:Addr} {fd:FuncData} (F:L2.Fun K "_law_base" "_law_base" st_law_base f fd) (T:Bt mg) (G_law_even:Cal P w K mg base 1 "_law_even" (rk K .k) φ_law_even) (G_law_cycles:Cal P w K mg base 1 "_law_cycles" (rk K .k) φ_law_cycles) (G_law_twisted:Cal P w K mg base 1 "_law_twisted" (rk K .k) φ_law_twisted) :
  L2.FnOk P w K mg base L2.CX0 2 f fd ["kind"] (spR K (rk K .k) φ_law_base) :=
 fn_ok (N:=["kind","dims","pair"]) (ps:=["kind"]) (k:=1) (m:=(rk K .k)) (g:=R_law_base) F sc_law_base (.inl (rk_non _)) fun cdv A outer s H E hr=>by
  have hu:=hr.units
  have nd:=sc_law_base.nd
  have nox:∀ (e:Value) (s:Shared),False→False:=fun _ _ h=>h
  exact (pss_more (ps_sets nd 1 (pd_lst (pa_one (pd_lst (pa_one (pd_int (m:=.k)) pa_no)) (pa_one (pd_lst (pa_one (pd_int (m:=.k)) pa_no)) (pa_one (pd_lst (pa_one (pd_int (m:=.k)) pa_no)) (pa_one (pd_lst (pa_one (pd_int (m:=.k)) pa_no)) (pa_one (pd_lst (pa_one (pd_int (m:=.k)) (pa_one (pd_int (m:=.k)) pa_no))) (pa_one (pd_lst (pa_one (pd_int (m:=.k)) pa_no)) (pa_one (pd_lst (pa_one (pd_int (m:=.k)) pa_no)) (pa_one (pd_lst (pa_one (pd_int (m:=.k)) pa_no)) (pa_one (pd_lst (pa_one (pd_int (m:=.k)) pa_no)) pa_no))))))))))) (pss_more (ps_sets nd 1 (pd_add (pd_var 1) (pd_lst (pa_one (pd_lst (pa_one (pd_int (m:=.k)) (pa_one (pd_int (m:=.k)) pa_no))) (pa_one (pd_lst (pa_one (pd_int (m:=.k)) (pa_one (pd_int (m:=.k)) (pa_one (pd_int (m:=.k)) pa_no)))) (pa_one (pd_lst (pa_one (pd_int (m:=.k)) pa_no)) (pa_one (pd_lst (pa_one (pd_int (m:=.k)) (pa_one (pd_int (m:=.k)) pa_no))) (pa_one (pd_lst (pa_one (pd_int (m:=.k)) pa_no)) (pa_one (pd_lst (pa_one (pd_int (m:=.k)) pa_no)) (pa_one (pd_lst (pa_one (pd_int (m:=.k)) pa_no)) (pa_one (pd_lst (pa_one (pd_int (m:=.k)) (pa_one (pd_int (m:=.k)) pa_no))) pa_no))))))))))) (pss_more (ps_iff (pt_lt (pd_var 0) (pd_int (m:=.k))) (pss_last (ps_rete (pd_call G_law_cycles (hr.mono (by decide)) (pa_one (pd_ix (pd_var 1) (pd_var 0)) pa_no)))) ps_nil) (pss_more (ps_iff (pt_lt (pd_var 0) (pd_int (m:=.k))) (pss_more (ps_sets nd 2 (pd_ix (pd_lst (pa_one (pd_tup (pa_one (pd_int (m:=.k)) (pa_one (pd_int (m:=.k)) pa_no))) (pa_one (pd_tup (pa_one (pd_int (m:=.k)) (pa_one (pd_int (m:=.k)) pa_no))) (pa_one (pd_tup (pa_one (pd_int (m:=.k)) (pa_one (pd_int (m:=.k)) pa_no))) (pa_one (pd_tup (pa_one (pd_int (m:=.k)) (pa_one (pd_int (m:=.k)) pa_no))) (pa_one (pd_tup (pa_one (pd_int (m:=.k)) (pa_one (pd_int (m:=.k)) pa_no))) (pa_one (pd_tup (pa_one (pd_int (m:=.k)) (pa_one (pd_int (m:=.k)) pa_no))) pa_no))))))) (pd_iSub (m:=.k) (pd_var 0) (pd_int (m:=.k))))) (pss_last (ps_rete (pd_call G_law_twisted (hr.mono (by decide)) (pa_one (pd_ix (pd_var 2) (pd_int (m:=.k))) (pa_one (pd_ix (pd_var 2) (pd_int (m:=.k))) pa_no)))))) ps_nil) (pss_last (ps_rete (pd_call0 G_law_even (hr.mono (by decide)))))))))
abbrev st_law_renamed:Stmt:=top 47
theorem sc_law_renamed:L2.FnScope ["base","cell","names","k","table","row","a","b"] ["base","cell"] (L2.defScope st_law_renamed):=⟨rfl,rfl,rfl,by decide +kernel,rfl,by decide +kernel,by decide +kernel⟩
theorem nonx_law_renamed:∀ env env',R_law_renamed env≠some (.nx,env'):=fun env env' h=>by
 unfold R_law_renamed at h
 obtain ⟨e1,_,h⟩:=seq_nx_inv h
 obtain ⟨e2,_,h⟩:=seq_nx_inv h
 obtain ⟨e3,_,h⟩:=seq_nx_inv h
 obtain ⟨e4,_,h⟩:=seq_nx_inv h
 unfold sRetT at h
 split at h <;> cases h
theorem ok_law_renamed {P:Program} {w:World} {K:PySem.W.Frag} {mg:Str→Option Value} {base:Heap} {f:Addr} {fd:FuncData} (F:L2.Fun K "_law_renamed" "_law_renamed" st_law_renamed f fd) (T:Bt mg) (G_law_draw:Cal P w K mg base 1 "_law_draw" (rk K .k) φ_law_draw) :
  L2.FnOk P w K mg base L2.CX0 2 f fd ["base","cell"] (spR K (rT K) φ_law_renamed) :=
 fn_ok (N:=["base","cell","names","k","table","row","a","b"]) (ps:=["base","cell"]) (k:=1) (m:=(rT K)) (g:=R_law_renamed) F sc_law_renamed (.inr nonx_law_renamed) fun cdv A outer s H E hr=>by
  have hu:=hr.units
  have nd:=sc_law_renamed.nd
  have nox:∀ (e:Value) (s:Shared),False→False:=fun _ _ h=>h
  exact (pss_more (ps_own nd 2 (po_lst (m:=.k) pa_no)) (pss_more (ps_fore (pi_rng T (pd_len (m:=.k) T (pd_var 0))) (pg_n nd 3) (pss_last (ps_ins 2 (pd_iMod (m:=.k) (pd_call G_law_draw (hr.mono (by decide)) (pa_one (pd_var 1) (pa_one (pd_var 3) (pa_one (pd_int (m:=.k)) pa_no)))) (pd_add (pd_var 3) (pd_int (m:=.k)))) (pd_var 3)))) (pss_more (ps_tabC nox nd 4 5 (pi_of (pd_var 0)) (fun _ _ _ _ _ _=>(po_list T (pd_var 5))) (fun _ _ h=>fList_inv h)) (pss_more (ps_fore (pi_rng T (pd_len (m:=.k) T (pd_var 0))) (pg_n nd 6) (pss_last (ps_fore (pi_rng T (pd_len (m:=.k) T (pd_var 0))) (pg_n nd 7) (pss_last (ps_put2 4 (pd_ix (pd_varR 2) (pd_var 6)) (pd_ix (pd_varR 2) (pd_var 7)) (pd_sc (m:=.k) (pd_ix (pd_varR 2) (pd_ix (pd_ix (pd_var 0) (pd_var 6)) (pd_var 7))))))))) (pss_last (ps_retT 4))))))
abbrev st_law_folk_by:Stmt:=top 48
theorem sc_law_folk_by:L2.FnScope ["script","first"] ["script","first"] (L2.defScope st_law_folk_by):=⟨rfl,rfl,rfl,by decide +kernel,rfl,by decide +kernel,by decide +kernel⟩
theorem nonx_law_folk_by:∀ env env',R_law_folk_by env≠some (.nx,env'):=fun env env' h=>by
 unfold R_law_folk_by sRet at h
 split at h <;> cases h
theorem ok_law_folk_by {P:Program} {w:World} {K:PySem.W.Frag} {mg:Str→Option Value} {base:Heap} {f:Addr} {fd:FuncData} (F:L2.Fun K "_law_folk_by" "_law_folk_by" st_law_folk_by f fd) (T:Bt mg) (G_law_renamed:Cal P w K mg base 2 "_law_renamed" (rT K) φ_law_renamed) (G_law_base:Cal P w K mg base 2 "_law_base" (rk K .k) φ_law_base) (G_law_cell_at:Cal P w K mg base 1 "_law_cell_at" (rk K .k) φ_law_cell_at) :
  L2.FnOk P w K mg base L2.CX0 3 f fd ["script","first"] (spR K (rT K) φ_law_folk_by) :=
 fn_ok (N:=["script","first"]) (ps:=["script","first"]) (k:=2) (m:=(rT K)) (g:=R_law_folk_by) F sc_law_folk_by (.inr nonx_law_folk_by) fun cdv A outer s H E hr=>by
  have hu:=hr.units
  have nd:=sc_law_folk_by.nd
  have nox:∀ (e:Value) (s:Shared),False→False:=fun _ _ h=>h
  exact (pss_last (ps_retTe (pt_callT G_law_renamed (hr.mono (by decide)) (pa_one (pd_call G_law_base (hr.mono (by decide)) (pa_one (pd_iMod (m:=.k) (pd_call G_law_cell_at (hr.mono (by decide)) (pa_one (pd_var 0) (pa_one (pd_var 1) pa_no))) (pd_int (m:=.k))) pa_no)) (pa_one (pd_call G_law_cell_at (hr.mono (by decide)) (pa_one (pd_var 0) (pa_one (pd_add (pd_var 1) (pd_int (m:=.k))) pa_no))) pa_no)))))
abbrev st_law_place:Stmt:=top 49
theorem sc_law_place:L2.FnScope ["known","element","place"] ["known","element"] (L2.defScope st_law_place):=⟨rfl,rfl,rfl,by decide +kernel,rfl,by decide +kernel,by decide +kernel⟩
theorem ok_law_place {P:Program} {w:World} {K:PySem.W.Frag} {mg:Str→Option Value} {base:Heap} {f:Addr} {fd:FuncData} (F:L2.Fun K "_law_place" "_law_place" st_law_place f fd) (T:Bt mg) :
  L2.FnOk P w K mg base L2.CX0 1 f fd ["known","element"] (spR K (rk K .k) φ_law_place) :=
 fn_ok (N:=["known","element","place"]) (ps:=["known","element"]) (k:=0) (m:=(rk K .k)) (g:=R_law_place) F sc_law_place (.inl (rk_non _)) fun cdv A outer s H E hr=>by
  have hu:=hr.units
  have nd:=sc_law_place.nd
  have nox:∀ (e:Value) (s:Shared),False→False:=fun _ _ h=>h
  exact (pss_last (ps_rete (pd_ix (pd_comp1 nox nd 2 (pi_rng T (pd_len (m:=.k) T (pd_var 0))) (fun _ _ _ _ _ _=>(pt_in hu (pd_var 1) (pd_ix (pd_var 0) (pd_var 2)))) (fun _ _ _ _ _ _=>(pd_var 2))) (pd_int (m:=.k)))))
abbrev st_law_right:Stmt:=top 50
theorem sc_law_right:L2.FnScope ["table","part","a","b","left","known"] ["table","part","a","b"] (L2.defScope st_law_right):=⟨rfl,rfl,rfl,by decide +kernel,rfl,by decide +kernel,by decide +kernel⟩
theorem ok_law_right {P:Program} {w:World} {K:PySem.W.Frag} {mg:Str→Option Value} {base:Heap} {f:Addr} {fd:FuncData} (F:L2.Fun K "_law_right" "_law_right" st_law_right f fd) (T:Bt mg) (G_taken_out:Cal P w K mg base 4 "taken_out" (rk K .k) φ_taken_out) (G_shares:Cal P w K mg base 4 "shares" rN φ_shares) (G_law_place:Cal P w K mg base 1 "_law_place" (rk K .k) φ_law_place) (G_flaw:Cal P w K mg base 3 "flaw" (rk K .k) φ_flaw) (G_rest:Cal P w K mg base 4 "rest" (rk K .k) φ_rest) :
  L2.FnOk P w K mg base L2.CX0 5 f fd ["table","part","a","b"] (spR K (rk K .k) φ_law_right) :=
 fn_ok (N:=["table","part","a","b","left","known"]) (ps:=["table","part","a","b"]) (k:=4) (m:=(rk K .k)) (g:=R_law_right) F sc_law_right (.inl (rk_non _)) fun cdv A outer s H E hr=>by
  have hu:=hr.units
  have nd:=sc_law_right.nd
  have nox:∀ (e:Value) (s:Shared),False→False:=fun _ _ h=>h
  exact (pss_more (ps_sets nd 4 (pd_call G_taken_out (hr.mono (by decide)) (pa_one (pd_var 0) (pa_one (pd_list T (pd_var 1)) pa_no)))) (pss_more (ps_sets nd 5 (PDn.d (PDw.n (pw_call G_shares (hr.mono (by decide)) (pa_one (pd_var 0) (pa_one (pd_list T (pd_var 1)) pa_no)))))) (pss_more (ps_iff (pw_t (pt_or (pt_ne hu (pd_len (m:=.k) T (pd_var 4)) (pd_len (m:=.k) T (pd_var 5))) (pt_or (pt_noN (pd_call G_flaw (hr.mono (by decide)) (pa_one (pd_var 4) pa_no))) (pt_oneOr (pt_ne hu (pd_ix (pd_var 5) (pd_call G_rest (hr.mono (by decide)) (pa_one (pd_var 4) pa_no))) (pd_var 1)))))) (pss_last (ps_rete (pd_bl (m:=.k)))) ps_nil) (pss_last (ps_rete ((pv_eq (m:=.k) hu (pd_ix (pd_ix (pd_var 4) (pd_call G_law_place (hr.mono (by decide)) (pa_one (pd_var 5) (pa_one (pd_var 2) pa_no)))) (pd_call G_law_place (hr.mono (by decide)) (pa_one (pd_var 5) (pa_one (pd_var 3) pa_no)))) (pd_call G_law_place (hr.mono (by decide)) (pa_one (pd_var 5) (pa_one (pd_ix (pd_ix (pd_var 0) (pd_var 2)) (pd_var 3)) pa_no))))))))))
abbrev st_law:Stmt:=top 51
theorem sc_law:L2.FnScope ["script","table","a","b","known","place","part"] ["script"] (L2.defScope st_law):=⟨rfl,rfl,rfl,by decide +kernel,rfl,by decide +kernel,by decide +kernel⟩
theorem ok_law {P:Program} {w:World} {K:PySem.W.Frag} {mg:Str→Option Value} {base:Heap} {f:Addr} {fd:FuncData} (F:L2.Fun K "law" "law" st_law f fd) (T:Bt mg) (G_law_folk_by:Cal P w K mg base 3 "_law_folk_by" (rT K) φ_law_folk_by) (G_parts:Cal P w K mg base 4 "parts" rN φ_parts) (G_law_cell_at:Cal P w K mg base 1 "_law_cell_at" (rk K .k) φ_law_cell_at) (G_is_loose:Cal P w K mg base 4 "is_loose" (rk K .k) φ_is_loose) (G_taken_out:Cal P w K mg base 4 "taken_out" (rk K .k) φ_taken_out) (G_renaming:Cal P w K mg base 16 "renaming" rN φ_renaming) (G_middle:Cal P w K mg base 4 "middle" rN φ_middle) (G_law_right:Cal P w K mg base 5 "_law_right" (rk K .k) φ_law_right) (G_rest:Cal P w K mg base 4 "rest" (rk K .k) φ_rest) :
  L2.FnOk P w K mg base L2.CX0 17 f fd ["script"] (spR K (rk K .k) φ_law) :=
 fn_ok (N:=["script","table","a","b","known","place","part"]) (ps:=["script"]) (k:=16) (m:=(rk K .k)) (g:=R_law) F sc_law (.inl (rk_non _)) fun cdv A outer s H E hr=>by
  have hu:=hr.units
  have nd:=sc_law.nd
  have nox:∀ (e:Value) (s:Shared),False→False:=fun _ _ h=>h
  exact (pss_more (ps_sets nd 1 ((PDt.k (pt_callT G_law_folk_by (hr.mono (by decide)) (pa_one (pd_var 0) (pa_one (pd_int (m:=.k)) pa_no)))))) (pss_more (ps_sets nd 2 (pd_iMod (m:=.k) (pd_call G_law_cell_at (hr.mono (by decide)) (pa_one (pd_var 0) (pa_one (pd_int (m:=.k)) pa_no))) (pd_len (m:=.k) T (pd_var 1)))) (pss_more (ps_sets nd 3 (pd_iMod (m:=.k) (pd_call G_law_cell_at (hr.mono (by decide)) (pa_one (pd_var 0) (pa_one (pd_int (m:=.k)) pa_no))) (pd_len (m:=.k) T (pd_var 1)))) (pss_more (ps_sets nd 4 (PDn.d (PDw.n (pw_call G_parts (hr.mono (by decide)) (pa_one (pd_var 1) pa_no))))) (pss_more (ps_fore (pi_of (pd_lst (pa_one (pd_int (m:=.k)) (pa_one (pd_iMod (m:=.k) (pd_call G_law_cell_at (hr.mono (by decide)) (pa_one (pd_var 0) (pa_one (pd_int (m:=.k)) pa_no))) (pd_len (m:=.k) T (pd_var 4))) (pa_one (pd_iMod (m:=.k) (pd_call G_law_cell_at (hr.mono (by decide)) (pa_one (pd_var 0) (pa_one (pd_int (m:=.k)) pa_no))) (pd_len (m:=.k) T (pd_var 4))) pa_no))))) (pg_n nd 5) (pss_more (ps_sets nd 6 (pd_ix (pd_var 4) (pd_var 5))) (pss_last (ps_iff (pw_t (pt_and (pt_of (pd_call G_is_loose (hr.mono (by decide)) (pa_one (pd_var 1) (pa_one (pd_list T (pd_var 6)) pa_no)))) (pt_oneAnd (pt_not (pt_of (pd_call G_law_right (hr.mono (by decide)) (pa_one (pd_var 1) (pa_one (pd_var 6) (pa_one (pd_var 2) (pa_one (pd_var 3) pa_no)))))))))) (pss_last (ps_rete (pd_bl (m:=.k)))) ps_nil)))) (pss_more (ps_iff (pw_t (pt_or (pt_ne hu (pd_call G_taken_out (hr.mono (by decide)) (pa_one (pd_var 1) (pa_one (pd_listrange (m:=.k) T (pd_len (m:=.k) T (pd_var 1))) pa_no))) (pd_lst (pa_one (pd_lst (pa_one (pd_int (m:=.k)) pa_no)) pa_no))) (pt_oneOr (pt_not (pt_of (pd_call G_is_loose (hr.mono (by decide)) (pa_one (pd_var 1) (pa_one (PDn.d (PDw.n (pw_call G_middle (hr.mono (by decide)) (pa_one (pd_var 1) pa_no)))) pa_no)))))))) (pss_last (ps_rete (pd_bl (m:=.k)))) ps_nil) (pss_last (ps_rete (((pv_and (m:=.k) (pv_noN (m:=.k) (PDn.d (PDw.n (pw_call G_renaming (hr.mono (by decide)) (pa_one (pd_call G_taken_out (hr.mono (by decide)) (pa_one (pd_var 1) (pa_one (pd_lst (pa_one (pd_call G_rest (hr.mono (by decide)) (pa_one (pd_var 1) pa_no)) pa_no)) pa_no))) (pa_one (pd_var 1) pa_no)))))) (pv_oneAnd (pv_in (m:=.k) hu (PDn.d (PDw.n (pw_call G_middle (hr.mono (by decide)) (pa_one (pd_var 1) pa_no)))) (pd_var 4))))))))))))))
end PV
set_option linter.all false
set_option Elab.async false
set_option maxRecDepth 100000
set_option maxHeartbeats 4000000
namespace PV
open PySem PySem.Spec PyProof.Rows
open L2 (V Hp HO Same Cx)
theorem all_mk {l:PySem.W.OpenLaw} {w:World} {K:PySem.W.Frag} {h:Heap} {mg:Str→Option Value} {fa:Addr} (X:K.In h) (G:h.Ns mainGlobals mg) (hfa:mg "law"=some (.ref fa))
  {f_is_element:Addr} {od_is_element an_is_element:Option Addr} {sl_is_element:Array (Option Value)} {oc_is_element kV_is_element dc_is_element pm_is_element cd_is_element ct_is_element:Value}
  (a_is_element:PySem.W.nsIn K mainGlobals "is_element"=some (some (.ref f_is_element))) (l_is_element:K.lookup f_is_element=some ⟨oc_is_element,od_is_element,.func (PySem.W.fnOf "is_element" "is_element" (L2.defArgs st_is_element) (L2.defBody st_is_element) (L2.defScope st_is_element) .none kV_is_element dc_is_element pm_is_element an_is_element cd_is_element ct_is_element),sl_is_element⟩) (c_is_element:PySem.W.codeIn K cd_is_element "is_element"=true) (k_is_element:PySem.W.keepIn K (.ref f_is_element)=true)
  {f_ask_table:Addr} {od_ask_table an_ask_table:Option Addr} {sl_ask_table:Array (Option Value)} {oc_ask_table kV_ask_table dc_ask_table pm_ask_table cd_ask_table ct_ask_table:Value}
  (a_ask_table:PySem.W.nsIn K mainGlobals "ask_table"=some (some (.ref f_ask_table))) (l_ask_table:K.lookup f_ask_table=some ⟨oc_ask_table,od_ask_table,.func (PySem.W.fnOf "ask_table" "ask_table" (L2.defArgs st_ask_table) (L2.defBody st_ask_table) (L2.defScope st_ask_table) .none kV_ask_table dc_ask_table pm_ask_table an_ask_table cd_ask_table ct_ask_table),sl_ask_table⟩) (c_ask_table:PySem.W.codeIn K cd_ask_table "ask_table"=true) (k_ask_table:PySem.W.keepIn K (.ref f_ask_table)=true)
  {f_find_three:Addr} {od_find_three an_find_three:Option Addr} {sl_find_three:Array (Option Value)} {oc_find_three kV_find_three dc_find_three pm_find_three cd_find_three ct_find_three:Value}
  (a_find_three:PySem.W.nsIn K mainGlobals "find_three"=some (some (.ref f_find_three))) (l_find_three:K.lookup f_find_three=some ⟨oc_find_three,od_find_three,.func (PySem.W.fnOf "find_three" "find_three" (L2.defArgs st_find_three) (L2.defBody st_find_three) (L2.defScope st_find_three) .none kV_find_three dc_find_three pm_find_three an_find_three cd_find_three ct_find_three),sl_find_three⟩) (c_find_three:PySem.W.codeIn K cd_find_three "find_three"=true) (k_find_three:PySem.W.keepIn K (.ref f_find_three)=true)
  {f_find_rest:Addr} {od_find_rest an_find_rest:Option Addr} {sl_find_rest:Array (Option Value)} {oc_find_rest kV_find_rest dc_find_rest pm_find_rest cd_find_rest ct_find_rest:Value}
  (a_find_rest:PySem.W.nsIn K mainGlobals "find_rest"=some (some (.ref f_find_rest))) (l_find_rest:K.lookup f_find_rest=some ⟨oc_find_rest,od_find_rest,.func (PySem.W.fnOf "find_rest" "find_rest" (L2.defArgs st_find_rest) (L2.defBody st_find_rest) (L2.defScope st_find_rest) .none kV_find_rest dc_find_rest pm_find_rest an_find_rest cd_find_rest ct_find_rest),sl_find_rest⟩) (c_find_rest:PySem.W.codeIn K cd_find_rest "find_rest"=true) (k_find_rest:PySem.W.keepIn K (.ref f_find_rest)=true)
  {f_find_back:Addr} {od_find_back an_find_back:Option Addr} {sl_find_back:Array (Option Value)} {oc_find_back kV_find_back dc_find_back pm_find_back cd_find_back ct_find_back:Value}
  (a_find_back:PySem.W.nsIn K mainGlobals "find_back"=some (some (.ref f_find_back))) (l_find_back:K.lookup f_find_back=some ⟨oc_find_back,od_find_back,.func (PySem.W.fnOf "find_back" "find_back" (L2.defArgs st_find_back) (L2.defBody st_find_back) (L2.defScope st_find_back) .none kV_find_back dc_find_back pm_find_back an_find_back cd_find_back ct_find_back),sl_find_back⟩) (c_find_back:PySem.W.codeIn K cd_find_back "find_back"=true) (k_find_back:PySem.W.keepIn K (.ref f_find_back)=true)
  {f_find_flaw:Addr} {od_find_flaw an_find_flaw:Option Addr} {sl_find_flaw:Array (Option Value)} {oc_find_flaw kV_find_flaw dc_find_flaw pm_find_flaw cd_find_flaw ct_find_flaw:Value}
  (a_find_flaw:PySem.W.nsIn K mainGlobals "find_flaw"=some (some (.ref f_find_flaw))) (l_find_flaw:K.lookup f_find_flaw=some ⟨oc_find_flaw,od_find_flaw,.func (PySem.W.fnOf "find_flaw" "find_flaw" (L2.defArgs st_find_flaw) (L2.defBody st_find_flaw) (L2.defScope st_find_flaw) .none kV_find_flaw dc_find_flaw pm_find_flaw an_find_flaw cd_find_flaw ct_find_flaw),sl_find_flaw⟩) (c_find_flaw:PySem.W.codeIn K cd_find_flaw "find_flaw"=true) (k_find_flaw:PySem.W.keepIn K (.ref f_find_flaw)=true)
  {f_flaw:Addr} {od_flaw an_flaw:Option Addr} {sl_flaw:Array (Option Value)} {oc_flaw kV_flaw dc_flaw pm_flaw cd_flaw ct_flaw:Value}
  (a_flaw:PySem.W.nsIn K mainGlobals "flaw"=some (some (.ref f_flaw))) (l_flaw:K.lookup f_flaw=some ⟨oc_flaw,od_flaw,.func (PySem.W.fnOf "flaw" "flaw" (L2.defArgs st_flaw) (L2.defBody st_flaw) (L2.defScope st_flaw) .none kV_flaw dc_flaw pm_flaw an_flaw cd_flaw ct_flaw),sl_flaw⟩) (c_flaw:PySem.W.codeIn K cd_flaw "flaw"=true) (k_flaw:PySem.W.keepIn K (.ref f_flaw)=true)
  {f_ask_folk:Addr} {od_ask_folk an_ask_folk:Option Addr} {sl_ask_folk:Array (Option Value)} {oc_ask_folk kV_ask_folk dc_ask_folk pm_ask_folk cd_ask_folk ct_ask_folk:Value}
  (a_ask_folk:PySem.W.nsIn K mainGlobals "ask_folk"=some (some (.ref f_ask_folk))) (l_ask_folk:K.lookup f_ask_folk=some ⟨oc_ask_folk,od_ask_folk,.func (PySem.W.fnOf "ask_folk" "ask_folk" (L2.defArgs st_ask_folk) (L2.defBody st_ask_folk) (L2.defScope st_ask_folk) .none kV_ask_folk dc_ask_folk pm_ask_folk an_ask_folk cd_ask_folk ct_ask_folk),sl_ask_folk⟩) (c_ask_folk:PySem.W.codeIn K cd_ask_folk "ask_folk"=true) (k_ask_folk:PySem.W.keepIn K (.ref f_ask_folk)=true)
  {f_rest:Addr} {od_rest an_rest:Option Addr} {sl_rest:Array (Option Value)} {oc_rest kV_rest dc_rest pm_rest cd_rest ct_rest:Value}
  (a_rest:PySem.W.nsIn K mainGlobals "rest"=some (some (.ref f_rest))) (l_rest:K.lookup f_rest=some ⟨oc_rest,od_rest,.func (PySem.W.fnOf "rest" "rest" (L2.defArgs st_rest) (L2.defBody st_rest) (L2.defScope st_rest) .none kV_rest dc_rest pm_rest an_rest cd_rest ct_rest),sl_rest⟩) (c_rest:PySem.W.codeIn K cd_rest "rest"=true) (k_rest:PySem.W.keepIn K (.ref f_rest)=true)
  {f_with_all_made:Addr} {od_with_all_made an_with_all_made:Option Addr} {sl_with_all_made:Array (Option Value)} {oc_with_all_made kV_with_all_made dc_with_all_made pm_with_all_made cd_with_all_made ct_with_all_made:Value}
  (a_with_all_made:PySem.W.nsIn K mainGlobals "with_all_made"=some (some (.ref f_with_all_made))) (l_with_all_made:K.lookup f_with_all_made=some ⟨oc_with_all_made,od_with_all_made,.func (PySem.W.fnOf "with_all_made" "with_all_made" (L2.defArgs st_with_all_made) (L2.defBody st_with_all_made) (L2.defScope st_with_all_made) .none kV_with_all_made dc_with_all_made pm_with_all_made an_with_all_made cd_with_all_made ct_with_all_made),sl_with_all_made⟩) (c_with_all_made:PySem.W.codeIn K cd_with_all_made "with_all_made"=true) (k_with_all_made:PySem.W.keepIn K (.ref f_with_all_made)=true)
  {f_least_part:Addr} {od_least_part an_least_part:Option Addr} {sl_least_part:Array (Option Value)} {oc_least_part kV_least_part dc_least_part pm_least_part cd_least_part ct_least_part:Value}
  (a_least_part:PySem.W.nsIn K mainGlobals "least_part"=some (some (.ref f_least_part))) (l_least_part:K.lookup f_least_part=some ⟨oc_least_part,od_least_part,.func (PySem.W.fnOf "least_part" "least_part" (L2.defArgs st_least_part) (L2.defBody st_least_part) (L2.defScope st_least_part) .none kV_least_part dc_least_part pm_least_part an_least_part cd_least_part ct_least_part),sl_least_part⟩) (c_least_part:PySem.W.codeIn K cd_least_part "least_part"=true) (k_least_part:PySem.W.keepIn K (.ref f_least_part)=true)
  {f_fewest_first:Addr} {od_fewest_first an_fewest_first:Option Addr} {sl_fewest_first:Array (Option Value)} {oc_fewest_first kV_fewest_first dc_fewest_first pm_fewest_first cd_fewest_first ct_fewest_first:Value}
  (a_fewest_first:PySem.W.nsIn K mainGlobals "fewest_first"=some (some (.ref f_fewest_first))) (l_fewest_first:K.lookup f_fewest_first=some ⟨oc_fewest_first,od_fewest_first,.func (PySem.W.fnOf "fewest_first" "fewest_first" (L2.defArgs st_fewest_first) (L2.defBody st_fewest_first) (L2.defScope st_fewest_first) .none kV_fewest_first dc_fewest_first pm_fewest_first an_fewest_first cd_fewest_first ct_fewest_first),sl_fewest_first⟩) (c_fewest_first:PySem.W.codeIn K cd_fewest_first "fewest_first"=true) (k_fewest_first:PySem.W.keepIn K (.ref f_fewest_first)=true)
  {f_parts:Addr} {od_parts an_parts:Option Addr} {sl_parts:Array (Option Value)} {oc_parts kV_parts dc_parts pm_parts cd_parts ct_parts:Value}
  (a_parts:PySem.W.nsIn K mainGlobals "parts"=some (some (.ref f_parts))) (l_parts:K.lookup f_parts=some ⟨oc_parts,od_parts,.func (PySem.W.fnOf "parts" "parts" (L2.defArgs st_parts) (L2.defBody st_parts) (L2.defScope st_parts) .none kV_parts dc_parts pm_parts an_parts cd_parts ct_parts),sl_parts⟩) (c_parts:PySem.W.codeIn K cd_parts "parts"=true) (k_parts:PySem.W.keepIn K (.ref f_parts)=true)
  {f_ask_part:Addr} {od_ask_part an_ask_part:Option Addr} {sl_ask_part:Array (Option Value)} {oc_ask_part kV_ask_part dc_ask_part pm_ask_part cd_ask_part ct_ask_part:Value}
  (a_ask_part:PySem.W.nsIn K mainGlobals "ask_part"=some (some (.ref f_ask_part))) (l_ask_part:K.lookup f_ask_part=some ⟨oc_ask_part,od_ask_part,.func (PySem.W.fnOf "ask_part" "ask_part" (L2.defArgs st_ask_part) (L2.defBody st_ask_part) (L2.defScope st_ask_part) .none kV_ask_part dc_ask_part pm_ask_part an_ask_part cd_ask_part ct_ask_part),sl_ask_part⟩) (c_ask_part:PySem.W.codeIn K cd_ask_part "ask_part"=true) (k_ask_part:PySem.W.keepIn K (.ref f_ask_part)=true)
  {f_share_ahead:Addr} {od_share_ahead an_share_ahead:Option Addr} {sl_share_ahead:Array (Option Value)} {oc_share_ahead kV_share_ahead dc_share_ahead pm_share_ahead cd_share_ahead ct_share_ahead:Value}
  (a_share_ahead:PySem.W.nsIn K mainGlobals "share_ahead"=some (some (.ref f_share_ahead))) (l_share_ahead:K.lookup f_share_ahead=some ⟨oc_share_ahead,od_share_ahead,.func (PySem.W.fnOf "share_ahead" "share_ahead" (L2.defArgs st_share_ahead) (L2.defBody st_share_ahead) (L2.defScope st_share_ahead) .none kV_share_ahead dc_share_ahead pm_share_ahead an_share_ahead cd_share_ahead ct_share_ahead),sl_share_ahead⟩) (c_share_ahead:PySem.W.codeIn K cd_share_ahead "share_ahead"=true) (k_share_ahead:PySem.W.keepIn K (.ref f_share_ahead)=true)
  {f_all_shares:Addr} {od_all_shares an_all_shares:Option Addr} {sl_all_shares:Array (Option Value)} {oc_all_shares kV_all_shares dc_all_shares pm_all_shares cd_all_shares ct_all_shares:Value}
  (a_all_shares:PySem.W.nsIn K mainGlobals "all_shares"=some (some (.ref f_all_shares))) (l_all_shares:K.lookup f_all_shares=some ⟨oc_all_shares,od_all_shares,.func (PySem.W.fnOf "all_shares" "all_shares" (L2.defArgs st_all_shares) (L2.defBody st_all_shares) (L2.defScope st_all_shares) .none kV_all_shares dc_all_shares pm_all_shares an_all_shares cd_all_shares ct_all_shares),sl_all_shares⟩) (c_all_shares:PySem.W.codeIn K cd_all_shares "all_shares"=true) (k_all_shares:PySem.W.keepIn K (.ref f_all_shares)=true)
  {f_shares:Addr} {od_shares an_shares:Option Addr} {sl_shares:Array (Option Value)} {oc_shares kV_shares dc_shares pm_shares cd_shares ct_shares:Value}
  (a_shares:PySem.W.nsIn K mainGlobals "shares"=some (some (.ref f_shares))) (l_shares:K.lookup f_shares=some ⟨oc_shares,od_shares,.func (PySem.W.fnOf "shares" "shares" (L2.defArgs st_shares) (L2.defBody st_shares) (L2.defScope st_shares) .none kV_shares dc_shares pm_shares an_shares cd_shares ct_shares),sl_shares⟩) (c_shares:PySem.W.codeIn K cd_shares "shares"=true) (k_shares:PySem.W.keepIn K (.ref f_shares)=true)
  {f_share_behind:Addr} {od_share_behind an_share_behind:Option Addr} {sl_share_behind:Array (Option Value)} {oc_share_behind kV_share_behind dc_share_behind pm_share_behind cd_share_behind ct_share_behind:Value}
  (a_share_behind:PySem.W.nsIn K mainGlobals "share_behind"=some (some (.ref f_share_behind))) (l_share_behind:K.lookup f_share_behind=some ⟨oc_share_behind,od_share_behind,.func (PySem.W.fnOf "share_behind" "share_behind" (L2.defArgs st_share_behind) (L2.defBody st_share_behind) (L2.defScope st_share_behind) .none kV_share_behind dc_share_behind pm_share_behind an_share_behind cd_share_behind ct_share_behind),sl_share_behind⟩) (c_share_behind:PySem.W.codeIn K cd_share_behind "share_behind"=true) (k_share_behind:PySem.W.keepIn K (.ref f_share_behind)=true)
  {f_same_on_both_sides:Addr} {od_same_on_both_sides an_same_on_both_sides:Option Addr} {sl_same_on_both_sides:Array (Option Value)} {oc_same_on_both_sides kV_same_on_both_sides dc_same_on_both_sides pm_same_on_both_sides cd_same_on_both_sides ct_same_on_both_sides:Value}
  (a_same_on_both_sides:PySem.W.nsIn K mainGlobals "same_on_both_sides"=some (some (.ref f_same_on_both_sides))) (l_same_on_both_sides:K.lookup f_same_on_both_sides=some ⟨oc_same_on_both_sides,od_same_on_both_sides,.func (PySem.W.fnOf "same_on_both_sides" "same_on_both_sides" (L2.defArgs st_same_on_both_sides) (L2.defBody st_same_on_both_sides) (L2.defScope st_same_on_both_sides) .none kV_same_on_both_sides dc_same_on_both_sides pm_same_on_both_sides an_same_on_both_sides cd_same_on_both_sides ct_same_on_both_sides),sl_same_on_both_sides⟩) (c_same_on_both_sides:PySem.W.codeIn K cd_same_on_both_sides "same_on_both_sides"=true) (k_same_on_both_sides:PySem.W.keepIn K (.ref f_same_on_both_sides)=true)
  {f_is_loose:Addr} {od_is_loose an_is_loose:Option Addr} {sl_is_loose:Array (Option Value)} {oc_is_loose kV_is_loose dc_is_loose pm_is_loose cd_is_loose ct_is_loose:Value}
  (a_is_loose:PySem.W.nsIn K mainGlobals "is_loose"=some (some (.ref f_is_loose))) (l_is_loose:K.lookup f_is_loose=some ⟨oc_is_loose,od_is_loose,.func (PySem.W.fnOf "is_loose" "is_loose" (L2.defArgs st_is_loose) (L2.defBody st_is_loose) (L2.defScope st_is_loose) .none kV_is_loose dc_is_loose pm_is_loose an_is_loose cd_is_loose ct_is_loose),sl_is_loose⟩) (c_is_loose:PySem.W.codeIn K cd_is_loose "is_loose"=true) (k_is_loose:PySem.W.keepIn K (.ref f_is_loose)=true)
  {f_table_of_shares:Addr} {od_table_of_shares an_table_of_shares:Option Addr} {sl_table_of_shares:Array (Option Value)} {oc_table_of_shares kV_table_of_shares dc_table_of_shares pm_table_of_shares cd_table_of_shares ct_table_of_shares:Value}
  (a_table_of_shares:PySem.W.nsIn K mainGlobals "table_of_shares"=some (some (.ref f_table_of_shares))) (l_table_of_shares:K.lookup f_table_of_shares=some ⟨oc_table_of_shares,od_table_of_shares,.func (PySem.W.fnOf "table_of_shares" "table_of_shares" (L2.defArgs st_table_of_shares) (L2.defBody st_table_of_shares) (L2.defScope st_table_of_shares) .none kV_table_of_shares dc_table_of_shares pm_table_of_shares an_table_of_shares cd_table_of_shares ct_table_of_shares),sl_table_of_shares⟩) (c_table_of_shares:PySem.W.codeIn K cd_table_of_shares "table_of_shares"=true) (k_table_of_shares:PySem.W.keepIn K (.ref f_table_of_shares)=true)
  {f_taken_out:Addr} {od_taken_out an_taken_out:Option Addr} {sl_taken_out:Array (Option Value)} {oc_taken_out kV_taken_out dc_taken_out pm_taken_out cd_taken_out ct_taken_out:Value}
  (a_taken_out:PySem.W.nsIn K mainGlobals "taken_out"=some (some (.ref f_taken_out))) (l_taken_out:K.lookup f_taken_out=some ⟨oc_taken_out,od_taken_out,.func (PySem.W.fnOf "taken_out" "taken_out" (L2.defArgs st_taken_out) (L2.defBody st_taken_out) (L2.defScope st_taken_out) .none kV_taken_out dc_taken_out pm_taken_out an_taken_out cd_taken_out ct_taken_out),sl_taken_out⟩) (c_taken_out:PySem.W.codeIn K cd_taken_out "taken_out"=true) (k_taken_out:PySem.W.keepIn K (.ref f_taken_out)=true)
  {f_makes_the_same_behind:Addr} {od_makes_the_same_behind an_makes_the_same_behind:Option Addr} {sl_makes_the_same_behind:Array (Option Value)} {oc_makes_the_same_behind kV_makes_the_same_behind dc_makes_the_same_behind pm_makes_the_same_behind cd_makes_the_same_behind ct_makes_the_same_behind:Value}
  (a_makes_the_same_behind:PySem.W.nsIn K mainGlobals "makes_the_same_behind"=some (some (.ref f_makes_the_same_behind))) (l_makes_the_same_behind:K.lookup f_makes_the_same_behind=some ⟨oc_makes_the_same_behind,od_makes_the_same_behind,.func (PySem.W.fnOf "makes_the_same_behind" "makes_the_same_behind" (L2.defArgs st_makes_the_same_behind) (L2.defBody st_makes_the_same_behind) (L2.defScope st_makes_the_same_behind) .none kV_makes_the_same_behind dc_makes_the_same_behind pm_makes_the_same_behind an_makes_the_same_behind cd_makes_the_same_behind ct_makes_the_same_behind),sl_makes_the_same_behind⟩) (c_makes_the_same_behind:PySem.W.codeIn K cd_makes_the_same_behind "makes_the_same_behind"=true) (k_makes_the_same_behind:PySem.W.keepIn K (.ref f_makes_the_same_behind)=true)
  {f_middle:Addr} {od_middle an_middle:Option Addr} {sl_middle:Array (Option Value)} {oc_middle kV_middle dc_middle pm_middle cd_middle ct_middle:Value}
  (a_middle:PySem.W.nsIn K mainGlobals "middle"=some (some (.ref f_middle))) (l_middle:K.lookup f_middle=some ⟨oc_middle,od_middle,.func (PySem.W.fnOf "middle" "middle" (L2.defArgs st_middle) (L2.defBody st_middle) (L2.defScope st_middle) .none kV_middle dc_middle pm_middle an_middle cd_middle ct_middle),sl_middle⟩) (c_middle:PySem.W.codeIn K cd_middle "middle"=true) (k_middle:PySem.W.keepIn K (.ref f_middle)=true)
  {f_least_without_name:Addr} {od_least_without_name an_least_without_name:Option Addr} {sl_least_without_name:Array (Option Value)} {oc_least_without_name kV_least_without_name dc_least_without_name pm_least_without_name cd_least_without_name ct_least_without_name:Value}
  (a_least_without_name:PySem.W.nsIn K mainGlobals "least_without_name"=some (some (.ref f_least_without_name))) (l_least_without_name:K.lookup f_least_without_name=some ⟨oc_least_without_name,od_least_without_name,.func (PySem.W.fnOf "least_without_name" "least_without_name" (L2.defArgs st_least_without_name) (L2.defBody st_least_without_name) (L2.defScope st_least_without_name) .none kV_least_without_name dc_least_without_name pm_least_without_name an_least_without_name cd_least_without_name ct_least_without_name),sl_least_without_name⟩) (c_least_without_name:PySem.W.codeIn K cd_least_without_name "least_without_name"=true) (k_least_without_name:PySem.W.keepIn K (.ref f_least_without_name)=true)
  {f_with_all_named:Addr} {od_with_all_named an_with_all_named:Option Addr} {sl_with_all_named:Array (Option Value)} {oc_with_all_named kV_with_all_named dc_with_all_named pm_with_all_named cd_with_all_named ct_with_all_named:Value}
  (a_with_all_named:PySem.W.nsIn K mainGlobals "with_all_named"=some (some (.ref f_with_all_named))) (l_with_all_named:K.lookup f_with_all_named=some ⟨oc_with_all_named,od_with_all_named,.func (PySem.W.fnOf "with_all_named" "with_all_named" (L2.defArgs st_with_all_named) (L2.defBody st_with_all_named) (L2.defScope st_with_all_named) .none kV_with_all_named dc_with_all_named pm_with_all_named an_with_all_named cd_with_all_named ct_with_all_named),sl_with_all_named⟩) (c_with_all_named:PySem.W.codeIn K cd_with_all_named "with_all_named"=true) (k_with_all_named:PySem.W.keepIn K (.ref f_with_all_named)=true)
  {f_with_name:Addr} {od_with_name an_with_name:Option Addr} {sl_with_name:Array (Option Value)} {oc_with_name kV_with_name dc_with_name pm_with_name cd_with_name ct_with_name:Value}
  (a_with_name:PySem.W.nsIn K mainGlobals "with_name"=some (some (.ref f_with_name))) (l_with_name:K.lookup f_with_name=some ⟨oc_with_name,od_with_name,.func (PySem.W.fnOf "with_name" "with_name" (L2.defArgs st_with_name) (L2.defBody st_with_name) (L2.defScope st_with_name) .none kV_with_name dc_with_name pm_with_name an_with_name cd_with_name ct_with_name),sl_with_name⟩) (c_with_name:PySem.W.codeIn K cd_with_name "with_name"=true) (k_with_name:PySem.W.keepIn K (.ref f_with_name)=true)
  {f_find_renaming:Addr} {od_find_renaming an_find_renaming:Option Addr} {sl_find_renaming:Array (Option Value)} {oc_find_renaming kV_find_renaming dc_find_renaming pm_find_renaming cd_find_renaming ct_find_renaming:Value}
  (a_find_renaming:PySem.W.nsIn K mainGlobals "find_renaming"=some (some (.ref f_find_renaming))) (l_find_renaming:K.lookup f_find_renaming=some ⟨oc_find_renaming,od_find_renaming,.func (PySem.W.fnOf "find_renaming" "find_renaming" (L2.defArgs st_find_renaming) (L2.defBody st_find_renaming) (L2.defScope st_find_renaming) .none kV_find_renaming dc_find_renaming pm_find_renaming an_find_renaming cd_find_renaming ct_find_renaming),sl_find_renaming⟩) (c_find_renaming:PySem.W.codeIn K cd_find_renaming "find_renaming"=true) (k_find_renaming:PySem.W.keepIn K (.ref f_find_renaming)=true)
  {f_renaming:Addr} {od_renaming an_renaming:Option Addr} {sl_renaming:Array (Option Value)} {oc_renaming kV_renaming dc_renaming pm_renaming cd_renaming ct_renaming:Value}
  (a_renaming:PySem.W.nsIn K mainGlobals "renaming"=some (some (.ref f_renaming))) (l_renaming:K.lookup f_renaming=some ⟨oc_renaming,od_renaming,.func (PySem.W.fnOf "renaming" "renaming" (L2.defArgs st_renaming) (L2.defBody st_renaming) (L2.defScope st_renaming) .none kV_renaming dc_renaming pm_renaming an_renaming cd_renaming ct_renaming),sl_renaming⟩) (c_renaming:PySem.W.codeIn K cd_renaming "renaming"=true) (k_renaming:PySem.W.keepIn K (.ref f_renaming)=true)
  {f_law_cell_at:Addr} {od_law_cell_at an_law_cell_at:Option Addr} {sl_law_cell_at:Array (Option Value)} {oc_law_cell_at kV_law_cell_at dc_law_cell_at pm_law_cell_at cd_law_cell_at ct_law_cell_at:Value}
  (a_law_cell_at:PySem.W.nsIn K mainGlobals "_law_cell_at"=some (some (.ref f_law_cell_at))) (l_law_cell_at:K.lookup f_law_cell_at=some ⟨oc_law_cell_at,od_law_cell_at,.func (PySem.W.fnOf "_law_cell_at" "_law_cell_at" (L2.defArgs st_law_cell_at) (L2.defBody st_law_cell_at) (L2.defScope st_law_cell_at) .none kV_law_cell_at dc_law_cell_at pm_law_cell_at an_law_cell_at cd_law_cell_at ct_law_cell_at),sl_law_cell_at⟩) (c_law_cell_at:PySem.W.codeIn K cd_law_cell_at "_law_cell_at"=true) (k_law_cell_at:PySem.W.keepIn K (.ref f_law_cell_at)=true)
  {f_law_draw:Addr} {od_law_draw an_law_draw:Option Addr} {sl_law_draw:Array (Option Value)} {oc_law_draw kV_law_draw dc_law_draw pm_law_draw cd_law_draw ct_law_draw:Value}
  (a_law_draw:PySem.W.nsIn K mainGlobals "_law_draw"=some (some (.ref f_law_draw))) (l_law_draw:K.lookup f_law_draw=some ⟨oc_law_draw,od_law_draw,.func (PySem.W.fnOf "_law_draw" "_law_draw" (L2.defArgs st_law_draw) (L2.defBody st_law_draw) (L2.defScope st_law_draw) .none kV_law_draw dc_law_draw pm_law_draw an_law_draw cd_law_draw ct_law_draw),sl_law_draw⟩) (c_law_draw:PySem.W.codeIn K cd_law_draw "_law_draw"=true) (k_law_draw:PySem.W.keepIn K (.ref f_law_draw)=true)
  {f_law_cycles:Addr} {od_law_cycles an_law_cycles:Option Addr} {sl_law_cycles:Array (Option Value)} {oc_law_cycles kV_law_cycles dc_law_cycles pm_law_cycles cd_law_cycles ct_law_cycles:Value}
  (a_law_cycles:PySem.W.nsIn K mainGlobals "_law_cycles"=some (some (.ref f_law_cycles))) (l_law_cycles:K.lookup f_law_cycles=some ⟨oc_law_cycles,od_law_cycles,.func (PySem.W.fnOf "_law_cycles" "_law_cycles" (L2.defArgs st_law_cycles) (L2.defBody st_law_cycles) (L2.defScope st_law_cycles) .none kV_law_cycles dc_law_cycles pm_law_cycles an_law_cycles cd_law_cycles ct_law_cycles),sl_law_cycles⟩) (c_law_cycles:PySem.W.codeIn K cd_law_cycles "_law_cycles"=true) (k_law_cycles:PySem.W.keepIn K (.ref f_law_cycles)=true)
  {f_law_twisted:Addr} {od_law_twisted an_law_twisted:Option Addr} {sl_law_twisted:Array (Option Value)} {oc_law_twisted kV_law_twisted dc_law_twisted pm_law_twisted cd_law_twisted ct_law_twisted:Value}
  (a_law_twisted:PySem.W.nsIn K mainGlobals "_law_twisted"=some (some (.ref f_law_twisted))) (l_law_twisted:K.lookup f_law_twisted=some ⟨oc_law_twisted,od_law_twisted,.func (PySem.W.fnOf "_law_twisted" "_law_twisted" (L2.defArgs st_law_twisted) (L2.defBody st_law_twisted) (L2.defScope st_law_twisted) .none kV_law_twisted dc_law_twisted pm_law_twisted an_law_twisted cd_law_twisted ct_law_twisted),sl_law_twisted⟩) (c_law_twisted:PySem.W.codeIn K cd_law_twisted "_law_twisted"=true) (k_law_twisted:PySem.W.keepIn K (.ref f_law_twisted)=true)
  {f_law_even:Addr} {od_law_even an_law_even:Option Addr} {sl_law_even:Array (Option Value)} {oc_law_even kV_law_even dc_law_even pm_law_even cd_law_even ct_law_even:Value}
  (a_law_even:PySem.W.nsIn K mainGlobals "_law_even"=some (some (.ref f_law_even))) (l_law_even:K.lookup f_law_even=some ⟨oc_law_even,od_law_even,.func (PySem.W.fnOf "_law_even" "_law_even" (L2.defArgs st_law_even) (L2.defBody st_law_even) (L2.defScope st_law_even) .none kV_law_even dc_law_even pm_law_even an_law_even cd_law_even ct_law_even),sl_law_even⟩) (c_law_even:PySem.W.codeIn K cd_law_even "_law_even"=true) (k_law_even:PySem.W.keepIn K (.ref f_law_even)=true)
  {f_law_base:Addr} {od_law_base an_law_base:Option Addr} {sl_law_base:Array (Option Value)} {oc_law_base kV_law_base dc_law_base pm_law_base cd_law_base ct_law_base:Value}
  (a_law_base:PySem.W.nsIn K mainGlobals "_law_base"=some (some (.ref f_law_base))) (l_law_base:K.lookup f_law_base=some ⟨oc_law_base,od_law_base,.func (PySem.W.fnOf "_law_base" "_law_base" (L2.defArgs st_law_base) (L2.defBody st_law_base) (L2.defScope st_law_base) .none kV_law_base dc_law_base pm_law_base an_law_base cd_law_base ct_law_base),sl_law_base⟩) (c_law_base:PySem.W.codeIn K cd_law_base "_law_base"=true) (k_law_base:PySem.W.keepIn K (.ref f_law_base)=true)
  {f_law_renamed:Addr} {od_law_renamed an_law_renamed:Option Addr} {sl_law_renamed:Array (Option Value)} {oc_law_renamed kV_law_renamed dc_law_renamed pm_law_renamed cd_law_renamed ct_law_renamed:Value}
  (a_law_renamed:PySem.W.nsIn K mainGlobals "_law_renamed"=some (some (.ref f_law_renamed))) (l_law_renamed:K.lookup f_law_renamed=some ⟨oc_law_renamed,od_law_renamed,.func (PySem.W.fnOf "_law_renamed" "_law_renamed" (L2.defArgs st_law_renamed) (L2.defBody st_law_renamed) (L2.defScope st_law_renamed) .none kV_law_renamed dc_law_renamed pm_law_renamed an_law_renamed cd_law_renamed ct_law_renamed),sl_law_renamed⟩) (c_law_renamed:PySem.W.codeIn K cd_law_renamed "_law_renamed"=true) (k_law_renamed:PySem.W.keepIn K (.ref f_law_renamed)=true)
  {f_law_folk_by:Addr} {od_law_folk_by an_law_folk_by:Option Addr} {sl_law_folk_by:Array (Option Value)} {oc_law_folk_by kV_law_folk_by dc_law_folk_by pm_law_folk_by cd_law_folk_by ct_law_folk_by:Value}
  (a_law_folk_by:PySem.W.nsIn K mainGlobals "_law_folk_by"=some (some (.ref f_law_folk_by))) (l_law_folk_by:K.lookup f_law_folk_by=some ⟨oc_law_folk_by,od_law_folk_by,.func (PySem.W.fnOf "_law_folk_by" "_law_folk_by" (L2.defArgs st_law_folk_by) (L2.defBody st_law_folk_by) (L2.defScope st_law_folk_by) .none kV_law_folk_by dc_law_folk_by pm_law_folk_by an_law_folk_by cd_law_folk_by ct_law_folk_by),sl_law_folk_by⟩) (c_law_folk_by:PySem.W.codeIn K cd_law_folk_by "_law_folk_by"=true) (k_law_folk_by:PySem.W.keepIn K (.ref f_law_folk_by)=true)
  {f_law_place:Addr} {od_law_place an_law_place:Option Addr} {sl_law_place:Array (Option Value)} {oc_law_place kV_law_place dc_law_place pm_law_place cd_law_place ct_law_place:Value}
  (a_law_place:PySem.W.nsIn K mainGlobals "_law_place"=some (some (.ref f_law_place))) (l_law_place:K.lookup f_law_place=some ⟨oc_law_place,od_law_place,.func (PySem.W.fnOf "_law_place" "_law_place" (L2.defArgs st_law_place) (L2.defBody st_law_place) (L2.defScope st_law_place) .none kV_law_place dc_law_place pm_law_place an_law_place cd_law_place ct_law_place),sl_law_place⟩) (c_law_place:PySem.W.codeIn K cd_law_place "_law_place"=true) (k_law_place:PySem.W.keepIn K (.ref f_law_place)=true)
  {f_law_right:Addr} {od_law_right an_law_right:Option Addr} {sl_law_right:Array (Option Value)} {oc_law_right kV_law_right dc_law_right pm_law_right cd_law_right ct_law_right:Value}
  (a_law_right:PySem.W.nsIn K mainGlobals "_law_right"=some (some (.ref f_law_right))) (l_law_right:K.lookup f_law_right=some ⟨oc_law_right,od_law_right,.func (PySem.W.fnOf "_law_right" "_law_right" (L2.defArgs st_law_right) (L2.defBody st_law_right) (L2.defScope st_law_right) .none kV_law_right dc_law_right pm_law_right an_law_right cd_law_right ct_law_right),sl_law_right⟩) (c_law_right:PySem.W.codeIn K cd_law_right "_law_right"=true) (k_law_right:PySem.W.keepIn K (.ref f_law_right)=true)
  {f_law:Addr} {od_law an_law:Option Addr} {sl_law:Array (Option Value)} {oc_law kV_law dc_law pm_law cd_law ct_law:Value}
  (a_law:PySem.W.nsIn K mainGlobals "law"=some (some (.ref f_law))) (l_law:K.lookup f_law=some ⟨oc_law,od_law,.func (PySem.W.fnOf "law" "law" (L2.defArgs st_law) (L2.defBody st_law) (L2.defScope st_law) .none kV_law dc_law pm_law an_law cd_law ct_law),sl_law⟩) (c_law:PySem.W.codeIn K cd_law "law"=true) (k_law:PySem.W.keepIn K (.ref f_law)=true)
  (z_len:PySem.W.nsIn K mainGlobals "len"=some none)
  (z_range:PySem.W.nsIn K mainGlobals "range"=some none)
  (z_list:PySem.W.nsIn K mainGlobals "list"=some none)
  (z_all:PySem.W.nsIn K mainGlobals "all"=some none)
  (z_isinstance:PySem.W.nsIn K mainGlobals "isinstance"=some none)
  (z_max:PySem.W.nsIn K mainGlobals "max"=some none)
  (z_int:PySem.W.nsIn K mainGlobals "int"=some none)
  (z_bool:PySem.W.nsIn K mainGlobals "bool"=some none)
  (z_str:PySem.W.nsIn K mainGlobals "str"=some none)
  (z_tuple:PySem.W.nsIn K mainGlobals "tuple"=some none)
  (z_sorted:PySem.W.nsIn K mainGlobals "sorted"=some none)
  (z_set:PySem.W.nsIn K mainGlobals "set"=some none)
  (z_any:PySem.W.nsIn K mainGlobals "any"=some none)
  (z_enumerate:PySem.W.nsIn K mainGlobals "enumerate"=some none)
  (z_dict:PySem.W.nsIn K mainGlobals "dict"=some none)
  {t_MOST_ROWS:Tok} (v_MOST_ROWS:PySem.W.nsIn K mainGlobals "MOST_ROWS"=some (some (.int 12 t_MOST_ROWS))) :
  ∃ fd:FuncData,(∀ (s:Shared) (v:Value),BindsTo s fd ⟨[v],[]⟩ [("script",v)])∧∀ base:Heap,K.In base→base.Ns mainGlobals mg→L2.FnOk l.prog w K mg base L2.CX0 17 fa fd ["script"] (spR K (rk K .k) φ_law):=by
 have e:=hfa.symm.trans (PySem.W.mg_of X G a_law)
 cases e
 have T:Bt mg:=⟨PySem.W.mg_none_of X G z_len,PySem.W.mg_none_of X G z_range,PySem.W.mg_none_of X G z_list,PySem.W.mg_none_of X G z_all,PySem.W.mg_none_of X G z_isinstance,PySem.W.mg_none_of X G z_max,PySem.W.mg_none_of X G z_int,PySem.W.mg_none_of X G z_bool,PySem.W.mg_none_of X G z_str,PySem.W.mg_none_of X G z_tuple,PySem.W.mg_none_of X G z_sorted,PySem.W.mg_none_of X G z_set,PySem.W.mg_none_of X G z_any,PySem.W.mg_none_of X G z_enumerate,PySem.W.mg_none_of X G z_dict⟩
 have C_MOST_ROWS:∃ t,mg "MOST_ROWS"=some (.int 12 t):=⟨_,PySem.W.mg_of X G v_MOST_ROWS⟩
 refine ⟨PySem.W.fnOf "law" "law" (L2.defArgs st_law) (L2.defBody st_law) (L2.defScope st_law) .none kV_law dc_law pm_law an_law cd_law ct_law,fun s v=>.of_eq rfl,fun base _ _=>?_⟩
 have G_is_element:Cal l.prog w K mg base 1 "is_element" (rk K .k) φ_is_element:=⟨⟨f_is_element,_,["table","number"],PySem.W.mg_of X G a_is_element,k_is_element,ok_is_element (P:=l.prog) (w:=w) (base:=base) (L2.fun_mk (st:=st_is_element) l_is_element c_is_element k_is_element) T,(L2.fun_mk (st:=st_is_element) l_is_element c_is_element k_is_element).binds fun _ _ _ _ _ _ us hl=>match us,hl with | [_,_],_=>rfl⟩⟩
 have G_ask_table:Cal l.prog w K mg base 2 "ask_table" (rk K .k) φ_ask_table:=⟨⟨f_ask_table,_,["table"],PySem.W.mg_of X G a_ask_table,k_ask_table,ok_ask_table (P:=l.prog) (w:=w) (base:=base) (L2.fun_mk (st:=st_ask_table) l_ask_table c_ask_table k_ask_table) T C_MOST_ROWS G_is_element,(L2.fun_mk (st:=st_ask_table) l_ask_table c_ask_table k_ask_table).binds fun _ _ _ _ _ _ us hl=>match us,hl with | [_],_=>rfl⟩⟩
 have G_find_three:Cal l.prog w K mg base 1 "find_three" (rk K .k) φ_find_three:=⟨⟨f_find_three,_,["table"],PySem.W.mg_of X G a_find_three,k_find_three,ok_find_three (P:=l.prog) (w:=w) (base:=base) (L2.fun_mk (st:=st_find_three) l_find_three c_find_three k_find_three) T,(L2.fun_mk (st:=st_find_three) l_find_three c_find_three k_find_three).binds fun _ _ _ _ _ _ us hl=>match us,hl with | [_],_=>rfl⟩⟩
 have G_find_rest:Cal l.prog w K mg base 1 "find_rest" (rk K .k) φ_find_rest:=⟨⟨f_find_rest,_,["table"],PySem.W.mg_of X G a_find_rest,k_find_rest,ok_find_rest (P:=l.prog) (w:=w) (base:=base) (L2.fun_mk (st:=st_find_rest) l_find_rest c_find_rest k_find_rest) T,(L2.fun_mk (st:=st_find_rest) l_find_rest c_find_rest k_find_rest).binds fun _ _ _ _ _ _ us hl=>match us,hl with | [_],_=>rfl⟩⟩
 have G_find_back:Cal l.prog w K mg base 1 "find_back" (rk K .k) φ_find_back:=⟨⟨f_find_back,_,["table","still","element"],PySem.W.mg_of X G a_find_back,k_find_back,ok_find_back (P:=l.prog) (w:=w) (base:=base) (L2.fun_mk (st:=st_find_back) l_find_back c_find_back k_find_back) T,(L2.fun_mk (st:=st_find_back) l_find_back c_find_back k_find_back).binds fun _ _ _ _ _ _ us hl=>match us,hl with | [_,_,_],_=>rfl⟩⟩
 have G_find_flaw:Cal l.prog w K mg base 2 "find_flaw" (rk K .k) φ_find_flaw:=⟨⟨f_find_flaw,_,["table"],PySem.W.mg_of X G a_find_flaw,k_find_flaw,ok_find_flaw (P:=l.prog) (w:=w) (base:=base) (L2.fun_mk (st:=st_find_flaw) l_find_flaw c_find_flaw k_find_flaw) T G_find_three G_find_rest G_find_back,(L2.fun_mk (st:=st_find_flaw) l_find_flaw c_find_flaw k_find_flaw).binds fun _ _ _ _ _ _ us hl=>match us,hl with | [_],_=>rfl⟩⟩
 have G_flaw:Cal l.prog w K mg base 3 "flaw" (rk K .k) φ_flaw:=⟨⟨f_flaw,_,["table"],PySem.W.mg_of X G a_flaw,k_flaw,ok_flaw (P:=l.prog) (w:=w) (base:=base) (L2.fun_mk (st:=st_flaw) l_flaw c_flaw k_flaw) T G_ask_table G_find_flaw,(L2.fun_mk (st:=st_flaw) l_flaw c_flaw k_flaw).binds fun _ _ _ _ _ _ us hl=>match us,hl with | [_],_=>rfl⟩⟩
 have G_ask_folk:Cal l.prog w K mg base 3 "ask_folk" (rk K .k) φ_ask_folk:=⟨⟨f_ask_folk,_,["table"],PySem.W.mg_of X G a_ask_folk,k_ask_folk,ok_ask_folk (P:=l.prog) (w:=w) (base:=base) (L2.fun_mk (st:=st_ask_folk) l_ask_folk c_ask_folk k_ask_folk) T G_ask_table G_find_flaw,(L2.fun_mk (st:=st_ask_folk) l_ask_folk c_ask_folk k_ask_folk).binds fun _ _ _ _ _ _ us hl=>match us,hl with | [_],_=>rfl⟩⟩
 have G_rest:Cal l.prog w K mg base 4 "rest" (rk K .k) φ_rest:=⟨⟨f_rest,_,["table"],PySem.W.mg_of X G a_rest,k_rest,ok_rest (P:=l.prog) (w:=w) (base:=base) (L2.fun_mk (st:=st_rest) l_rest c_rest k_rest) T G_ask_folk G_find_rest,(L2.fun_mk (st:=st_rest) l_rest c_rest k_rest).binds fun _ _ _ _ _ _ us hl=>match us,hl with | [_],_=>rfl⟩⟩
 have G_with_all_made:Cal l.prog w K mg base 1 "with_all_made" rN φ_with_all_made:=⟨⟨f_with_all_made,_,["table","inside"],PySem.W.mg_of X G a_with_all_made,k_with_all_made,ok_with_all_made (P:=l.prog) (w:=w) (base:=base) (L2.fun_mk (st:=st_with_all_made) l_with_all_made c_with_all_made k_with_all_made) T,(L2.fun_mk (st:=st_with_all_made) l_with_all_made c_with_all_made k_with_all_made).binds fun _ _ _ _ _ _ us hl=>match us,hl with | [_,_],_=>rfl⟩⟩
 have G_least_part:Cal l.prog w K mg base 2 "least_part" rN φ_least_part:=⟨⟨f_least_part,_,["table","some"],PySem.W.mg_of X G a_least_part,k_least_part,ok_least_part (P:=l.prog) (w:=w) (base:=base) (L2.fun_mk (st:=st_least_part) l_least_part c_least_part k_least_part) T G_with_all_made G_find_rest,(L2.fun_mk (st:=st_least_part) l_least_part c_least_part k_least_part).binds fun _ _ _ _ _ _ us hl=>match us,hl with | [_,_],_=>rfl⟩⟩
 have G_fewest_first:Cal l.prog w K mg base 1 "fewest_first" (rk K .k) φ_fewest_first:=⟨⟨f_fewest_first,_,["part"],PySem.W.mg_of X G a_fewest_first,k_fewest_first,ok_fewest_first (P:=l.prog) (w:=w) (base:=base) (L2.fun_mk (st:=st_fewest_first) l_fewest_first c_fewest_first k_fewest_first) T,(L2.fun_mk (st:=st_fewest_first) l_fewest_first c_fewest_first k_fewest_first).binds fun _ _ _ _ _ _ us hl=>match us,hl with | [_],_=>rfl⟩⟩
 have G_parts:Cal l.prog w K mg base 4 "parts" rN φ_parts:=⟨⟨f_parts,_,["table"],PySem.W.mg_of X G a_parts,k_parts,ok_parts (P:=l.prog) (w:=w) (base:=base) (L2.fun_mk (st:=st_parts) l_parts c_parts k_parts) T G_ask_folk G_least_part G_fewest_first,(L2.fun_mk (st:=st_parts) l_parts c_parts k_parts).binds fun _ _ _ _ _ _ us hl=>match us,hl with | [_],_=>rfl⟩⟩
 have G_ask_part:Cal l.prog w K mg base 3 "ask_part" (rk K .k) φ_ask_part:=⟨⟨f_ask_part,_,["table","part"],PySem.W.mg_of X G a_ask_part,k_ask_part,ok_ask_part (P:=l.prog) (w:=w) (base:=base) (L2.fun_mk (st:=st_ask_part) l_ask_part c_ask_part k_ask_part) T G_least_part G_is_element,(L2.fun_mk (st:=st_ask_part) l_ask_part c_ask_part k_ask_part).binds fun _ _ _ _ _ _ us hl=>match us,hl with | [_,_],_=>rfl⟩⟩
 have G_share_ahead:Cal l.prog w K mg base 1 "share_ahead" rN φ_share_ahead:=⟨⟨f_share_ahead,_,["table","part","element"],PySem.W.mg_of X G a_share_ahead,k_share_ahead,ok_share_ahead (P:=l.prog) (w:=w) (base:=base) (L2.fun_mk (st:=st_share_ahead) l_share_ahead c_share_ahead k_share_ahead) T,(L2.fun_mk (st:=st_share_ahead) l_share_ahead c_share_ahead k_share_ahead).binds fun _ _ _ _ _ _ us hl=>match us,hl with | [_,_,_],_=>rfl⟩⟩
 have G_all_shares:Cal l.prog w K mg base 2 "all_shares" rN φ_all_shares:=⟨⟨f_all_shares,_,["table","part"],PySem.W.mg_of X G a_all_shares,k_all_shares,ok_all_shares (P:=l.prog) (w:=w) (base:=base) (L2.fun_mk (st:=st_all_shares) l_all_shares c_all_shares k_all_shares) T G_share_ahead,(L2.fun_mk (st:=st_all_shares) l_all_shares c_all_shares k_all_shares).binds fun _ _ _ _ _ _ us hl=>match us,hl with | [_,_],_=>rfl⟩⟩
 have G_shares:Cal l.prog w K mg base 4 "shares" rN φ_shares:=⟨⟨f_shares,_,["table","part"],PySem.W.mg_of X G a_shares,k_shares,ok_shares (P:=l.prog) (w:=w) (base:=base) (L2.fun_mk (st:=st_shares) l_shares c_shares k_shares) T G_ask_folk G_ask_part G_all_shares,(L2.fun_mk (st:=st_shares) l_shares c_shares k_shares).binds fun _ _ _ _ _ _ us hl=>match us,hl with | [_,_],_=>rfl⟩⟩
 have G_share_behind:Cal l.prog w K mg base 1 "share_behind" rN φ_share_behind:=⟨⟨f_share_behind,_,["table","part","element"],PySem.W.mg_of X G a_share_behind,k_share_behind,ok_share_behind (P:=l.prog) (w:=w) (base:=base) (L2.fun_mk (st:=st_share_behind) l_share_behind c_share_behind k_share_behind) T,(L2.fun_mk (st:=st_share_behind) l_share_behind c_share_behind k_share_behind).binds fun _ _ _ _ _ _ us hl=>match us,hl with | [_,_,_],_=>rfl⟩⟩
 have G_same_on_both_sides:Cal l.prog w K mg base 2 "same_on_both_sides" (rk K .k) φ_same_on_both_sides:=⟨⟨f_same_on_both_sides,_,["table","part"],PySem.W.mg_of X G a_same_on_both_sides,k_same_on_both_sides,ok_same_on_both_sides (P:=l.prog) (w:=w) (base:=base) (L2.fun_mk (st:=st_same_on_both_sides) l_same_on_both_sides c_same_on_both_sides k_same_on_both_sides) T G_share_ahead G_share_behind,(L2.fun_mk (st:=st_same_on_both_sides) l_same_on_both_sides c_same_on_both_sides k_same_on_both_sides).binds fun _ _ _ _ _ _ us hl=>match us,hl with | [_,_],_=>rfl⟩⟩
 have G_is_loose:Cal l.prog w K mg base 4 "is_loose" (rk K .k) φ_is_loose:=⟨⟨f_is_loose,_,["table","part"],PySem.W.mg_of X G a_is_loose,k_is_loose,ok_is_loose (P:=l.prog) (w:=w) (base:=base) (L2.fun_mk (st:=st_is_loose) l_is_loose c_is_loose k_is_loose) T G_ask_folk G_ask_part G_same_on_both_sides,(L2.fun_mk (st:=st_is_loose) l_is_loose c_is_loose k_is_loose).binds fun _ _ _ _ _ _ us hl=>match us,hl with | [_,_],_=>rfl⟩⟩
 have G_table_of_shares:Cal l.prog w K mg base 1 "table_of_shares" (rk K .k) φ_table_of_shares:=⟨⟨f_table_of_shares,_,["table","found"],PySem.W.mg_of X G a_table_of_shares,k_table_of_shares,ok_table_of_shares (P:=l.prog) (w:=w) (base:=base) (L2.fun_mk (st:=st_table_of_shares) l_table_of_shares c_table_of_shares k_table_of_shares) T,(L2.fun_mk (st:=st_table_of_shares) l_table_of_shares c_table_of_shares k_table_of_shares).binds fun _ _ _ _ _ _ us hl=>match us,hl with | [_,_],_=>rfl⟩⟩
 have G_taken_out:Cal l.prog w K mg base 4 "taken_out" (rk K .k) φ_taken_out:=⟨⟨f_taken_out,_,["table","part"],PySem.W.mg_of X G a_taken_out,k_taken_out,ok_taken_out (P:=l.prog) (w:=w) (base:=base) (L2.fun_mk (st:=st_taken_out) l_taken_out c_taken_out k_taken_out) T G_ask_folk G_ask_part G_all_shares G_table_of_shares G_same_on_both_sides,(L2.fun_mk (st:=st_taken_out) l_taken_out c_taken_out k_taken_out).binds fun _ _ _ _ _ _ us hl=>match us,hl with | [_,_],_=>rfl⟩⟩
 have G_makes_the_same_behind:Cal l.prog w K mg base 1 "makes_the_same_behind" (rk K .k) φ_makes_the_same_behind:=⟨⟨f_makes_the_same_behind,_,["table","element"],PySem.W.mg_of X G a_makes_the_same_behind,k_makes_the_same_behind,ok_makes_the_same_behind (P:=l.prog) (w:=w) (base:=base) (L2.fun_mk (st:=st_makes_the_same_behind) l_makes_the_same_behind c_makes_the_same_behind k_makes_the_same_behind) T,(L2.fun_mk (st:=st_makes_the_same_behind) l_makes_the_same_behind c_makes_the_same_behind k_makes_the_same_behind).binds fun _ _ _ _ _ _ us hl=>match us,hl with | [_,_],_=>rfl⟩⟩
 have G_middle:Cal l.prog w K mg base 4 "middle" rN φ_middle:=⟨⟨f_middle,_,["table"],PySem.W.mg_of X G a_middle,k_middle,ok_middle (P:=l.prog) (w:=w) (base:=base) (L2.fun_mk (st:=st_middle) l_middle c_middle k_middle) T G_ask_folk G_makes_the_same_behind,(L2.fun_mk (st:=st_middle) l_middle c_middle k_middle).binds fun _ _ _ _ _ _ us hl=>match us,hl with | [_],_=>rfl⟩⟩
 have G_least_without_name:Cal l.prog w K mg base 1 "least_without_name" (rk K .k) φ_least_without_name:=⟨⟨f_least_without_name,_,["names"],PySem.W.mg_of X G a_least_without_name,k_least_without_name,ok_least_without_name (P:=l.prog) (w:=w) (base:=base) (L2.fun_mk (st:=st_least_without_name) l_least_without_name c_least_without_name k_least_without_name) T,(L2.fun_mk (st:=st_least_without_name) l_least_without_name c_least_without_name k_least_without_name).binds fun _ _ _ _ _ _ us hl=>match us,hl with | [_],_=>rfl⟩⟩
 have G_with_all_named:Cal l.prog w K mg base 1 "with_all_named" (rk K .k) φ_with_all_named:=⟨⟨f_with_all_named,_,["one","other","names"],PySem.W.mg_of X G a_with_all_named,k_with_all_named,ok_with_all_named (P:=l.prog) (w:=w) (base:=base) (L2.fun_mk (st:=st_with_all_named) l_with_all_named c_with_all_named k_with_all_named) T,(L2.fun_mk (st:=st_with_all_named) l_with_all_named c_with_all_named k_with_all_named).binds fun _ _ _ _ _ _ us hl=>match us,hl with | [_,_,_],_=>rfl⟩⟩
 have G_with_name:Cal l.prog w K mg base 2 "with_name" (rk K .k) φ_with_name:=⟨⟨f_with_name,_,["one","other","names","element","name"],PySem.W.mg_of X G a_with_name,k_with_name,ok_with_name (P:=l.prog) (w:=w) (base:=base) (L2.fun_mk (st:=st_with_name) l_with_name c_with_name k_with_name) T G_with_all_named,(L2.fun_mk (st:=st_with_name) l_with_name c_with_name k_with_name).binds fun _ _ _ _ _ _ us hl=>match us,hl with | [_,_,_,_,_],_=>rfl⟩⟩
 have G_find_renaming:Cal l.prog w K mg base 15 "find_renaming" rN φ_find_renaming:=by
  have all:∀ n:Nat,Cal l.prog w K mg base (2 + n) "find_renaming" rN (φn_find_renaming n):=by
   intro n
   induction n with
   | zero=>exact ⟨⟨f_find_renaming,_,["one","other","names"],PySem.W.mg_of X G a_find_renaming,k_find_renaming,⟨fun _ _ _ _ h=>(by obtain ⟨_,_,_,_,_,e,_⟩:=h;cases e),fun _ _ _ _ _ _ _ _ _ _ _ _ _ h=>(by obtain ⟨_,_,_,_,_,e,_⟩:=h;cases e)⟩,(L2.fun_mk (st:=st_find_renaming) l_find_renaming c_find_renaming k_find_renaming).binds fun _ _ _ _ _ _ us hl=>match us,hl with | [_,_,_],_=>rfl⟩⟩
   | succ n ih=>exact ⟨⟨f_find_renaming,_,["one","other","names"],PySem.W.mg_of X G a_find_renaming,k_find_renaming,ok_find_renaming (P:=l.prog) (w:=w) (base:=base) (L2.fun_mk (st:=st_find_renaming) l_find_renaming c_find_renaming k_find_renaming) T G_least_without_name G_with_name n ih,(L2.fun_mk (st:=st_find_renaming) l_find_renaming c_find_renaming k_find_renaming).binds fun _ _ _ _ _ _ us hl=>match us,hl with | [_,_,_],_=>rfl⟩⟩
  exact all 13
 have G_renaming:Cal l.prog w K mg base 16 "renaming" rN φ_renaming:=⟨⟨f_renaming,_,["one","other"],PySem.W.mg_of X G a_renaming,k_renaming,ok_renaming (P:=l.prog) (w:=w) (base:=base) (L2.fun_mk (st:=st_renaming) l_renaming c_renaming k_renaming) T G_ask_folk G_find_renaming G_find_rest,(L2.fun_mk (st:=st_renaming) l_renaming c_renaming k_renaming).binds fun _ _ _ _ _ _ us hl=>match us,hl with | [_,_],_=>rfl⟩⟩
 have G_law_cell_at:Cal l.prog w K mg base 1 "_law_cell_at" (rk K .k) φ_law_cell_at:=⟨⟨f_law_cell_at,_,["script","k"],PySem.W.mg_of X G a_law_cell_at,k_law_cell_at,ok_law_cell_at (P:=l.prog) (w:=w) (base:=base) (L2.fun_mk (st:=st_law_cell_at) l_law_cell_at c_law_cell_at k_law_cell_at) T,(L2.fun_mk (st:=st_law_cell_at) l_law_cell_at c_law_cell_at k_law_cell_at).binds fun _ _ _ _ _ _ us hl=>match us,hl with | [_,_],_=>rfl⟩⟩
 have G_law_draw:Cal l.prog w K mg base 1 "_law_draw" (rk K .k) φ_law_draw:=⟨⟨f_law_draw,_,["cell","k","bound"],PySem.W.mg_of X G a_law_draw,k_law_draw,ok_law_draw (P:=l.prog) (w:=w) (base:=base) (L2.fun_mk (st:=st_law_draw) l_law_draw c_law_draw k_law_draw) T,(L2.fun_mk (st:=st_law_draw) l_law_draw c_law_draw k_law_draw).binds fun _ _ _ _ _ _ us hl=>match us,hl with | [_,_,_],_=>rfl⟩⟩
 have G_law_cycles:Cal l.prog w K mg base 1 "_law_cycles" (rk K .k) φ_law_cycles:=⟨⟨f_law_cycles,_,["dims"],PySem.W.mg_of X G a_law_cycles,k_law_cycles,ok_law_cycles (P:=l.prog) (w:=w) (base:=base) (L2.fun_mk (st:=st_law_cycles) l_law_cycles c_law_cycles k_law_cycles) T,(L2.fun_mk (st:=st_law_cycles) l_law_cycles c_law_cycles k_law_cycles).binds fun _ _ _ _ _ _ us hl=>match us,hl with | [_],_=>rfl⟩⟩
 have G_law_twisted:Cal l.prog w K mg base 1 "_law_twisted" (rk K .k) φ_law_twisted:=⟨⟨f_law_twisted,_,["many","extra"],PySem.W.mg_of X G a_law_twisted,k_law_twisted,ok_law_twisted (P:=l.prog) (w:=w) (base:=base) (L2.fun_mk (st:=st_law_twisted) l_law_twisted c_law_twisted k_law_twisted) T,(L2.fun_mk (st:=st_law_twisted) l_law_twisted c_law_twisted k_law_twisted).binds fun _ _ _ _ _ _ us hl=>match us,hl with | [_,_],_=>rfl⟩⟩
 have G_law_even:Cal l.prog w K mg base 1 "_law_even" (rk K .k) φ_law_even:=⟨⟨f_law_even,_,[],PySem.W.mg_of X G a_law_even,k_law_even,ok_law_even (P:=l.prog) (w:=w) (base:=base) (L2.fun_mk (st:=st_law_even) l_law_even c_law_even k_law_even) T,(L2.fun_mk (st:=st_law_even) l_law_even c_law_even k_law_even).binds fun _ _ _ _ _ _ us hl=>match us,hl with | [],_=>rfl⟩⟩
 have G_law_base:Cal l.prog w K mg base 2 "_law_base" (rk K .k) φ_law_base:=⟨⟨f_law_base,_,["kind"],PySem.W.mg_of X G a_law_base,k_law_base,ok_law_base (P:=l.prog) (w:=w) (base:=base) (L2.fun_mk (st:=st_law_base) l_law_base c_law_base k_law_base) T G_law_even G_law_cycles G_law_twisted,(L2.fun_mk (st:=st_law_base) l_law_base c_law_base k_law_base).binds fun _ _ _ _ _ _ us hl=>match us,hl with | [_],_=>rfl⟩⟩
 have G_law_renamed:Cal l.prog w K mg base 2 "_law_renamed" (rT K) φ_law_renamed:=⟨⟨f_law_renamed,_,["base","cell"],PySem.W.mg_of X G a_law_renamed,k_law_renamed,ok_law_renamed (P:=l.prog) (w:=w) (base:=base) (L2.fun_mk (st:=st_law_renamed) l_law_renamed c_law_renamed k_law_renamed) T G_law_draw,(L2.fun_mk (st:=st_law_renamed) l_law_renamed c_law_renamed k_law_renamed).binds fun _ _ _ _ _ _ us hl=>match us,hl with | [_,_],_=>rfl⟩⟩
 have G_law_folk_by:Cal l.prog w K mg base 3 "_law_folk_by" (rT K) φ_law_folk_by:=⟨⟨f_law_folk_by,_,["script","first"],PySem.W.mg_of X G a_law_folk_by,k_law_folk_by,ok_law_folk_by (P:=l.prog) (w:=w) (base:=base) (L2.fun_mk (st:=st_law_folk_by) l_law_folk_by c_law_folk_by k_law_folk_by) T G_law_renamed G_law_base G_law_cell_at,(L2.fun_mk (st:=st_law_folk_by) l_law_folk_by c_law_folk_by k_law_folk_by).binds fun _ _ _ _ _ _ us hl=>match us,hl with | [_,_],_=>rfl⟩⟩
 have G_law_place:Cal l.prog w K mg base 1 "_law_place" (rk K .k) φ_law_place:=⟨⟨f_law_place,_,["known","element"],PySem.W.mg_of X G a_law_place,k_law_place,ok_law_place (P:=l.prog) (w:=w) (base:=base) (L2.fun_mk (st:=st_law_place) l_law_place c_law_place k_law_place) T,(L2.fun_mk (st:=st_law_place) l_law_place c_law_place k_law_place).binds fun _ _ _ _ _ _ us hl=>match us,hl with | [_,_],_=>rfl⟩⟩
 have G_law_right:Cal l.prog w K mg base 5 "_law_right" (rk K .k) φ_law_right:=⟨⟨f_law_right,_,["table","part","a","b"],PySem.W.mg_of X G a_law_right,k_law_right,ok_law_right (P:=l.prog) (w:=w) (base:=base) (L2.fun_mk (st:=st_law_right) l_law_right c_law_right k_law_right) T G_taken_out G_shares G_law_place G_flaw G_rest,(L2.fun_mk (st:=st_law_right) l_law_right c_law_right k_law_right).binds fun _ _ _ _ _ _ us hl=>match us,hl with | [_,_,_,_],_=>rfl⟩⟩
 exact ok_law (P:=l.prog) (w:=w) (base:=base) (L2.fun_mk (st:=st_law) l_law c_law k_law) T G_law_folk_by G_parts G_law_cell_at G_is_loose G_taken_out G_renaming G_middle G_law_right G_rest
theorem walk {l:PySem.W.OpenLaw} {q:Program} {loose:List Str} {XP:(Str→Option Value)→Heap→Prop} {YP:World→Heap→Prop} {d:DefRec} {K:Params→PySem.W.Frag} (hn:l.most=some 63) (hdf:d.params.defaults=[])
  (hY:∀ (w:World) (h:Heap),YP w h→(K w.params).In h)
  (F:∀ (w:World) (mg:Str→Option Value) (fa:Addr) (h:Heap),(K w.params).In h→h.Ns mainGlobals mg→mg d.name=some (.ref fa) →
   ∃ fd:FuncData,(∀ (s:Shared) (u:Value),BindsTo s fd ⟨[u],[]⟩ [("script",u)])∧∀ base:Heap,(K w.params).In base→base.Ns mainGlobals mg→L2.FnOk l.prog w (K w.params) mg base L2.CX0 17 fa fd ["script"] (spR (K w.params) (rk (K w.params) .k) φ_law)) :
  PySem.W.WalkO q loose XP YP l.row.toRowW d [] (fun f vs=>PySem.call f vs) :=
 L2.walk_of (n:=63) (k:=17) (x:="script") (CX:=fun _=>L2.CX0) (sp:=fun w=>spR (K w.params) (rk (K w.params) .k) φ_law) hn (by decide) hdf ⟨rfl,by decide,by decide⟩ hY F (fun _ _ a ns hl _ hS=>law_start (law09 ns) hS) fun _ _ _ _ _ z=>z
end PV
set_option maxHeartbeats 0 in
theorem PySem.Challenge.cw_tablefolk_k09_whole_what_is_left_holds : PySem.Challenge.rw_tablefolk_k09_whole_what_is_left.Holds := by
  w_on; o_law; k_head; (case hw => w_witness2)
  k_fill
  refine PV.walk (l := PySem.Challenge.rw_tablefolk_k09_whole_what_is_left) rfl rfl (fun w h Y => PySem.W.kIn_of Y) ?F
  case F =>
    intro w mg fa h KX G hmg
    refine' PV.all_mk KX G hmg ?a_is_element ?l_is_element ?c_is_element ?k_is_element ?a_ask_table ?l_ask_table ?c_ask_table ?k_ask_table ?a_find_three ?l_find_three ?c_find_three ?k_find_three ?a_find_rest ?l_find_rest ?c_find_rest ?k_find_rest ?a_find_back ?l_find_back ?c_find_back ?k_find_back ?a_find_flaw ?l_find_flaw ?c_find_flaw ?k_find_flaw ?a_flaw ?l_flaw ?c_flaw ?k_flaw ?a_ask_folk ?l_ask_folk ?c_ask_folk ?k_ask_folk ?a_rest ?l_rest ?c_rest ?k_rest ?a_with_all_made ?l_with_all_made ?c_with_all_made ?k_with_all_made ?a_least_part ?l_least_part ?c_least_part ?k_least_part ?a_fewest_first ?l_fewest_first ?c_fewest_first ?k_fewest_first ?a_parts ?l_parts ?c_parts ?k_parts ?a_ask_part ?l_ask_part ?c_ask_part ?k_ask_part ?a_share_ahead ?l_share_ahead ?c_share_ahead ?k_share_ahead ?a_all_shares ?l_all_shares ?c_all_shares ?k_all_shares ?a_shares ?l_shares ?c_shares ?k_shares ?a_share_behind ?l_share_behind ?c_share_behind ?k_share_behind ?a_same_on_both_sides ?l_same_on_both_sides ?c_same_on_both_sides ?k_same_on_both_sides ?a_is_loose ?l_is_loose ?c_is_loose ?k_is_loose ?a_table_of_shares ?l_table_of_shares ?c_table_of_shares ?k_table_of_shares ?a_taken_out ?l_taken_out ?c_taken_out ?k_taken_out ?a_makes_the_same_behind ?l_makes_the_same_behind ?c_makes_the_same_behind ?k_makes_the_same_behind ?a_middle ?l_middle ?c_middle ?k_middle ?a_least_without_name ?l_least_without_name ?c_least_without_name ?k_least_without_name ?a_with_all_named ?l_with_all_named ?c_with_all_named ?k_with_all_named ?a_with_name ?l_with_name ?c_with_name ?k_with_name ?a_find_renaming ?l_find_renaming ?c_find_renaming ?k_find_renaming ?a_renaming ?l_renaming ?c_renaming ?k_renaming ?a_law_cell_at ?l_law_cell_at ?c_law_cell_at ?k_law_cell_at ?a_law_draw ?l_law_draw ?c_law_draw ?k_law_draw ?a_law_cycles ?l_law_cycles ?c_law_cycles ?k_law_cycles ?a_law_twisted ?l_law_twisted ?c_law_twisted ?k_law_twisted ?a_law_even ?l_law_even ?c_law_even ?k_law_even ?a_law_base ?l_law_base ?c_law_base ?k_law_base ?a_law_renamed ?l_law_renamed ?c_law_renamed ?k_law_renamed ?a_law_folk_by ?l_law_folk_by ?c_law_folk_by ?k_law_folk_by ?a_law_place ?l_law_place ?c_law_place ?k_law_place ?a_law_right ?l_law_right ?c_law_right ?k_law_right ?a_law ?l_law ?c_law ?k_law ?z_len ?z_range ?z_list ?z_all ?z_isinstance ?z_max ?z_int ?z_bool ?z_str ?z_tuple ?z_sorted ?z_set ?z_any ?z_enumerate ?z_dict ?v_MOST_ROWS
    (case a_is_element => k_is)
    (case l_is_element => k_is)
    (case c_is_element => k_is)
    (case k_is_element => k_is)
    (case a_ask_table => k_is)
    (case l_ask_table => k_is)
    (case c_ask_table => k_is)
    (case k_ask_table => k_is)
    (case a_find_three => k_is)
    (case l_find_three => k_is)
    (case c_find_three => k_is)
    (case k_find_three => k_is)
    (case a_find_rest => k_is)
    (case l_find_rest => k_is)
    (case c_find_rest => k_is)
    (case k_find_rest => k_is)
    (case a_find_back => k_is)
    (case l_find_back => k_is)
    (case c_find_back => k_is)
    (case k_find_back => k_is)
    (case a_find_flaw => k_is)
    (case l_find_flaw => k_is)
    (case c_find_flaw => k_is)
    (case k_find_flaw => k_is)
    (case a_flaw => k_is)
    (case l_flaw => k_is)
    (case c_flaw => k_is)
    (case k_flaw => k_is)
    (case a_ask_folk => k_is)
    (case l_ask_folk => k_is)
    (case c_ask_folk => k_is)
    (case k_ask_folk => k_is)
    (case a_rest => k_is)
    (case l_rest => k_is)
    (case c_rest => k_is)
    (case k_rest => k_is)
    (case a_with_all_made => k_is)
    (case l_with_all_made => k_is)
    (case c_with_all_made => k_is)
    (case k_with_all_made => k_is)
    (case a_least_part => k_is)
    (case l_least_part => k_is)
    (case c_least_part => k_is)
    (case k_least_part => k_is)
    (case a_fewest_first => k_is)
    (case l_fewest_first => k_is)
    (case c_fewest_first => k_is)
    (case k_fewest_first => k_is)
    (case a_parts => k_is)
    (case l_parts => k_is)
    (case c_parts => k_is)
    (case k_parts => k_is)
    (case a_ask_part => k_is)
    (case l_ask_part => k_is)
    (case c_ask_part => k_is)
    (case k_ask_part => k_is)
    (case a_share_ahead => k_is)
    (case l_share_ahead => k_is)
    (case c_share_ahead => k_is)
    (case k_share_ahead => k_is)
    (case a_all_shares => k_is)
    (case l_all_shares => k_is)
    (case c_all_shares => k_is)
    (case k_all_shares => k_is)
    (case a_shares => k_is)
    (case l_shares => k_is)
    (case c_shares => k_is)
    (case k_shares => k_is)
    (case a_share_behind => k_is)
    (case l_share_behind => k_is)
    (case c_share_behind => k_is)
    (case k_share_behind => k_is)
    (case a_same_on_both_sides => k_is)
    (case l_same_on_both_sides => k_is)
    (case c_same_on_both_sides => k_is)
    (case k_same_on_both_sides => k_is)
    (case a_is_loose => k_is)
    (case l_is_loose => k_is)
    (case c_is_loose => k_is)
    (case k_is_loose => k_is)
    (case a_table_of_shares => k_is)
    (case l_table_of_shares => k_is)
    (case c_table_of_shares => k_is)
    (case k_table_of_shares => k_is)
    (case a_taken_out => k_is)
    (case l_taken_out => k_is)
    (case c_taken_out => k_is)
    (case k_taken_out => k_is)
    (case a_makes_the_same_behind => k_is)
    (case l_makes_the_same_behind => k_is)
    (case c_makes_the_same_behind => k_is)
    (case k_makes_the_same_behind => k_is)
    (case a_middle => k_is)
    (case l_middle => k_is)
    (case c_middle => k_is)
    (case k_middle => k_is)
    (case a_least_without_name => k_is)
    (case l_least_without_name => k_is)
    (case c_least_without_name => k_is)
    (case k_least_without_name => k_is)
    (case a_with_all_named => k_is)
    (case l_with_all_named => k_is)
    (case c_with_all_named => k_is)
    (case k_with_all_named => k_is)
    (case a_with_name => k_is)
    (case l_with_name => k_is)
    (case c_with_name => k_is)
    (case k_with_name => k_is)
    (case a_find_renaming => k_is)
    (case l_find_renaming => k_is)
    (case c_find_renaming => k_is)
    (case k_find_renaming => k_is)
    (case a_renaming => k_is)
    (case l_renaming => k_is)
    (case c_renaming => k_is)
    (case k_renaming => k_is)
    (case a_law_cell_at => k_is)
    (case l_law_cell_at => k_is)
    (case c_law_cell_at => k_is)
    (case k_law_cell_at => k_is)
    (case a_law_draw => k_is)
    (case l_law_draw => k_is)
    (case c_law_draw => k_is)
    (case k_law_draw => k_is)
    (case a_law_cycles => k_is)
    (case l_law_cycles => k_is)
    (case c_law_cycles => k_is)
    (case k_law_cycles => k_is)
    (case a_law_twisted => k_is)
    (case l_law_twisted => k_is)
    (case c_law_twisted => k_is)
    (case k_law_twisted => k_is)
    (case a_law_even => k_is)
    (case l_law_even => k_is)
    (case c_law_even => k_is)
    (case k_law_even => k_is)
    (case a_law_base => k_is)
    (case l_law_base => k_is)
    (case c_law_base => k_is)
    (case k_law_base => k_is)
    (case a_law_renamed => k_is)
    (case l_law_renamed => k_is)
    (case c_law_renamed => k_is)
    (case k_law_renamed => k_is)
    (case a_law_folk_by => k_is)
    (case l_law_folk_by => k_is)
    (case c_law_folk_by => k_is)
    (case k_law_folk_by => k_is)
    (case a_law_place => k_is)
    (case l_law_place => k_is)
    (case c_law_place => k_is)
    (case k_law_place => k_is)
    (case a_law_right => k_is)
    (case l_law_right => k_is)
    (case c_law_right => k_is)
    (case k_law_right => k_is)
    (case a_law => k_is)
    (case l_law => k_is)
    (case c_law => k_is)
    (case k_law => k_is)
    (case z_len => k_is)
    (case z_range => k_is)
    (case z_list => k_is)
    (case z_all => k_is)
    (case z_isinstance => k_is)
    (case z_max => k_is)
    (case z_int => k_is)
    (case z_bool => k_is)
    (case z_str => k_is)
    (case z_tuple => k_is)
    (case z_sorted => k_is)
    (case z_set => k_is)
    (case z_any => k_is)
    (case z_enumerate => k_is)
    (case z_dict => k_is)
    (case v_MOST_ROWS => k_is)
